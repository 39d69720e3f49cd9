/-
  NARROWER THAN 'FOR EVERY INPUT', by the rows' own cells (each row's printed sentence says how): PagerActs: laid · PagerRoom: laid · PagerRoots: laid · PagerRefuses: laid.
  DERIVED. THE GIVEN ROWS OF THIS SEAT. 4 by the template 'for every input the law returns true; each argument reads behind the call as it read before'; 0 by the template 'total and deterministic' (their statements: YtfjiceoagenfnaaDoorTotals.lean).
  GIVEN WITH THE SEED: the statements are not yours to turn. If you find one false, say at which input.
  Laid BY PROGRAM, IN A SANDBOX (cutbox-rows.mjs): the forced cells as the released guide's own fill.sh prints them over the translation 2fdfde73332edbb4… (all of the seat's roots in one cut). By AI agents, Wed Nov 11 2026. No macro, syntax, notation, axiom, sorry.
-/
import Derived.Test.YtfjiceoagenfnaaDoorChecked
import GoSem.Claim
import GoSem.ClaimJoined
import GoSem.ClaimMapViews
import Derived.JoinedTies
import Derived.KernelRfl
namespace Go.Proofs.YtfjiceoagenfnaaDoor
/- THE CELL 'sum', in the pinned program and in every row, IS THE sha256 OF THE DUMP (.gsa) THAT YtfjiceoagenfnaaDoorProg.lean LOADS. Nothing in Lean hashes anything: it is a label: what it is worth is what the hold of that sum in a sandbox is worth. -/
noncomputable def Tryd.pinned : Pinned := { name := "ytfjiceoagenfnaadoor", sum := "2fdfde73332edbb4502af957e2521661d9571c94616bedbbbd57563cc2bfbd9f", checked := Tryd.checked }
namespace Rows
def none {H : Type} : Left H := { results := [], args := [] }

/- WHAT THE LISTED PACKAGE-LEVEL VARIABLES READ AS WHEN THE CALL BEGINS. Each datum BY PROGRAM (the guide's laid-datum.mjs) off the statement by which the dump's own 'gosem.cut.vars' lays the variable. In a bare row this is a premise. The card (YtfjiceoagenfnaaDoorCards.lean) ties it to the program's text. -/
def laid_merestone_frame_byFour {H : Type} : DataW H := .agg [.lit (.int .u32 0), .lit (.int .u32 498536548), .lit (.int .u32 997073096), .lit (.int .u32 651767980), .lit (.int .u32 1994146192), .lit (.int .u32 1802195444), .lit (.int .u32 1303535960), .lit (.int .u32 1342533948), .lit (.int .u32 3988292384), .lit (.int .u32 4027552580), .lit (.int .u32 3604390888), .lit (.int .u32 3412177804), .lit (.int .u32 2607071920), .lit (.int .u32 2262029012), .lit (.int .u32 2685067896), .lit (.int .u32 3183342108)]

/-- 'merestonelaw16.PagerActs': WHATEVER THE INPUT: true; the input reads as it did. -/
def pagerActsSpec : ChangeSpec := { name := "pagerActs", fn := fun _ => fun
  | [d1, d2] => { results := [.lit (.bool true)], args := [d1, d2] }
  | _ => none }
def pagerActsRow : OpenClaim := { program := "ytfjiceoagenfnaadoor", sum := "2fdfde73332edbb4502af957e2521661d9571c94616bedbbbd57563cc2bfbd9f", func := "merestone/merestonelaw16.PagerActs", spec := "pagerActs", unfollowed := true, recurses := true, named := ["merestone/frame.byFour"], apart := false, laid := [("merestone/frame.byFour", laid_merestone_frame_byFour)] }
def PagerActsSaid : Prop := pagerActsRow.holds Tryd.pinned (OpenSpec.ofChange pagerActsSpec)

/-- ITS FALSE NEIGHBOUR: 'it returns false'. Refute it at one input. -/
def pagerActsWrong : ChangeSpec := { name := "pagerActs", fn := fun _ => fun
  | [d1, d2] => { results := [.lit (.bool false)], args := [d1, d2] }
  | _ => none }
def PagerActsWrongFalsely : Prop := pagerActsRow.holds Tryd.pinned (OpenSpec.ofChange pagerActsWrong)

/-- 'merestonelaw16.PagerRoom': WHATEVER THE INPUT: true; the input reads as it did. -/
def pagerRoomSpec : ChangeSpec := { name := "pagerRoom", fn := fun _ => fun
  | [d1, d2] => { results := [.lit (.bool true)], args := [d1, d2] }
  | _ => none }
def pagerRoomRow : OpenClaim := { program := "ytfjiceoagenfnaadoor", sum := "2fdfde73332edbb4502af957e2521661d9571c94616bedbbbd57563cc2bfbd9f", func := "merestone/merestonelaw16.PagerRoom", spec := "pagerRoom", unfollowed := true, recurses := true, named := ["merestone/frame.byFour"], apart := false, laid := [("merestone/frame.byFour", laid_merestone_frame_byFour)] }
def PagerRoomSaid : Prop := pagerRoomRow.holds Tryd.pinned (OpenSpec.ofChange pagerRoomSpec)

/-- ITS FALSE NEIGHBOUR: 'it returns false'. Refute it at one input. -/
def pagerRoomWrong : ChangeSpec := { name := "pagerRoom", fn := fun _ => fun
  | [d1, d2] => { results := [.lit (.bool false)], args := [d1, d2] }
  | _ => none }
def PagerRoomWrongFalsely : Prop := pagerRoomRow.holds Tryd.pinned (OpenSpec.ofChange pagerRoomWrong)

/-- 'merestonelaw16.PagerRoots': WHATEVER THE INPUT: true; the input reads as it did. -/
def pagerRootsSpec : ChangeSpec := { name := "pagerRoots", fn := fun _ => fun
  | [d1, d2] => { results := [.lit (.bool true)], args := [d1, d2] }
  | _ => none }
def pagerRootsRow : OpenClaim := { program := "ytfjiceoagenfnaadoor", sum := "2fdfde73332edbb4502af957e2521661d9571c94616bedbbbd57563cc2bfbd9f", func := "merestone/merestonelaw16.PagerRoots", spec := "pagerRoots", unfollowed := true, recurses := true, named := ["merestone/frame.byFour"], apart := false, laid := [("merestone/frame.byFour", laid_merestone_frame_byFour)] }
def PagerRootsSaid : Prop := pagerRootsRow.holds Tryd.pinned (OpenSpec.ofChange pagerRootsSpec)

/-- ITS FALSE NEIGHBOUR: 'it returns false'. Refute it at one input. -/
def pagerRootsWrong : ChangeSpec := { name := "pagerRoots", fn := fun _ => fun
  | [d1, d2] => { results := [.lit (.bool false)], args := [d1, d2] }
  | _ => none }
def PagerRootsWrongFalsely : Prop := pagerRootsRow.holds Tryd.pinned (OpenSpec.ofChange pagerRootsWrong)

/-- 'merestonelaw16.PagerRefuses': WHATEVER THE INPUT: true; the input reads as it did. -/
def pagerRefusesSpec : ChangeSpec := { name := "pagerRefuses", fn := fun _ => fun
  | [d1, d2] => { results := [.lit (.bool true)], args := [d1, d2] }
  | _ => none }
def pagerRefusesRow : OpenClaim := { program := "ytfjiceoagenfnaadoor", sum := "2fdfde73332edbb4502af957e2521661d9571c94616bedbbbd57563cc2bfbd9f", func := "merestone/merestonelaw16.PagerRefuses", spec := "pagerRefuses", unfollowed := true, recurses := true, named := ["merestone/frame.byFour"], apart := false, laid := [("merestone/frame.byFour", laid_merestone_frame_byFour)] }
def PagerRefusesSaid : Prop := pagerRefusesRow.holds Tryd.pinned (OpenSpec.ofChange pagerRefusesSpec)

/-- ITS FALSE NEIGHBOUR: 'it returns false'. Refute it at one input. -/
def pagerRefusesWrong : ChangeSpec := { name := "pagerRefuses", fn := fun _ => fun
  | [d1, d2] => { results := [.lit (.bool false)], args := [d1, d2] }
  | _ => none }
def PagerRefusesWrongFalsely : Prop := pagerRefusesRow.holds Tryd.pinned (OpenSpec.ofChange pagerRefusesWrong)

/- THE SECOND FORM. 'bulk': how many values and letters a reading holds, each counted each time it is reached (what is shared counts as often as it is met; a slice's spare places count too). A statement '..UptoSaid' is the law's where the arguments, and the package variables that the reading takes, are together of bulk at most 1048576: NARROWER than '..Said'. Prove '..Said' where nothing that the law and all that it calls make is longer than what came in: it says more and counts as full. Else prove '..UptoSaid'. A law counts once. -/
mutual
def uptoBulk {H : Type} : DataW H → Nat
  | .lit (.string bytes) => bytes.length + 1
  | .lit _ => 1
  | .nil => 1
  | .ptr d => uptoBulk d + 1
  | .slice elems spare => uptoBulkAll elems + uptoBulkAll spare + 1
  | .agg parts => uptoBulkAll parts + 1
  | .iface _ d => uptoBulk d + 1
  | .map entries => uptoBulkEntries entries + 1
  | .held _ => 1
def uptoBulkAll {H : Type} : List (DataW H) → Nat
  | [] => 0
  | d :: r => uptoBulk d + uptoBulkAll r
def uptoBulkEntries {H : Type} : List (Lit × DataW H) → Nat
  | [] => 0
  | x :: r => uptoBulkEntry x + uptoBulkEntries r
def uptoBulkEntry {H : Type} : Lit × DataW H → Nat
  | (.string bytes, d) => bytes.length + uptoBulk d + 1
  | (_, d) => uptoBulk d + 1
 end
def uptoSmall : (H : Type) → List (DataW H) → Bool := fun _ ds => decide (uptoBulkAll ds ≤ 1048576)
def OpenSpec.upto (s : _root_.Go.ChangeSpec) : _root_.Go.OpenSpec := { _root_.Go.OpenSpec.ofChange s with cond := some uptoSmall }

/-- 'merestonelaw16.PagerActs', WHERE WHAT IT READS IS OF BULK AT MOST 1048576: true; the input reads as it did. -/
def pagerActsUptoRow : OpenClaim := { program := "ytfjiceoagenfnaadoor", sum := "2fdfde73332edbb4502af957e2521661d9571c94616bedbbbd57563cc2bfbd9f", func := "merestone/merestonelaw16.PagerActs", spec := "pagerActs", unfollowed := true, recurses := true, named := ["merestone/frame.byFour"], apart := false, laid := [("merestone/frame.byFour", laid_merestone_frame_byFour)], narrowed := true }
def PagerActsUptoSaid : Prop := pagerActsUptoRow.holds Tryd.pinned (OpenSpec.upto pagerActsSpec)

/-- 'merestonelaw16.PagerRoom', WHERE WHAT IT READS IS OF BULK AT MOST 1048576: true; the input reads as it did. -/
def pagerRoomUptoRow : OpenClaim := { program := "ytfjiceoagenfnaadoor", sum := "2fdfde73332edbb4502af957e2521661d9571c94616bedbbbd57563cc2bfbd9f", func := "merestone/merestonelaw16.PagerRoom", spec := "pagerRoom", unfollowed := true, recurses := true, named := ["merestone/frame.byFour"], apart := false, laid := [("merestone/frame.byFour", laid_merestone_frame_byFour)], narrowed := true }
def PagerRoomUptoSaid : Prop := pagerRoomUptoRow.holds Tryd.pinned (OpenSpec.upto pagerRoomSpec)

/-- 'merestonelaw16.PagerRoots', WHERE WHAT IT READS IS OF BULK AT MOST 1048576: true; the input reads as it did. -/
def pagerRootsUptoRow : OpenClaim := { program := "ytfjiceoagenfnaadoor", sum := "2fdfde73332edbb4502af957e2521661d9571c94616bedbbbd57563cc2bfbd9f", func := "merestone/merestonelaw16.PagerRoots", spec := "pagerRoots", unfollowed := true, recurses := true, named := ["merestone/frame.byFour"], apart := false, laid := [("merestone/frame.byFour", laid_merestone_frame_byFour)], narrowed := true }
def PagerRootsUptoSaid : Prop := pagerRootsUptoRow.holds Tryd.pinned (OpenSpec.upto pagerRootsSpec)

/-- 'merestonelaw16.PagerRefuses', WHERE WHAT IT READS IS OF BULK AT MOST 1048576: true; the input reads as it did. -/
def pagerRefusesUptoRow : OpenClaim := { program := "ytfjiceoagenfnaadoor", sum := "2fdfde73332edbb4502af957e2521661d9571c94616bedbbbd57563cc2bfbd9f", func := "merestone/merestonelaw16.PagerRefuses", spec := "pagerRefuses", unfollowed := true, recurses := true, named := ["merestone/frame.byFour"], apart := false, laid := [("merestone/frame.byFour", laid_merestone_frame_byFour)], narrowed := true }
def PagerRefusesUptoSaid : Prop := pagerRefusesUptoRow.holds Tryd.pinned (OpenSpec.upto pagerRefusesSpec)

end Rows
end Go.Proofs.YtfjiceoagenfnaaDoor
