/-
  No cell of these rows narrows 'for every input' (looked for: loops, veiled, ifaces, maps, wideKeys, modest, calm, conditions, laid).
  DERIVED. THE GIVEN ROWS OF THIS SEAT. 5 by the template 'for every input the law returns true; each argument reads behind the call as it read before'; 0 by the template 'total and deterministic' (their statements: YtfjfmieadedjoaaGreatTotals.lean).
  GIVEN WITH THE SEED: the statements are not yours to turn. If you find one false, say at which input.
  Laid BY PROGRAM, IN A SANDBOX (cutbox-rows.mjs): the forced cells as the released guide's own fill.sh prints them over the translation 2ccf9c0c94013e99… (all of the seat's roots in one cut). By AI agents, Wed Nov 11 2026. No macro, syntax, notation, axiom, sorry.
-/
import Derived.Test.YtfjfmieadedjoaaGreatChecked
import GoSem.Claim
import GoSem.ClaimJoined
import GoSem.ClaimMapViews
import Derived.JoinedTies
import Derived.KernelRfl
namespace Go.Proofs.YtfjfmieadedjoaaGreat
/- THE CELL 'sum', in the pinned program and in every row, IS THE sha256 OF THE DUMP (.gsa) THAT YtfjfmieadedjoaaGreatProg.lean LOADS. Nothing in Lean hashes anything: it is a label: what it is worth is what the hold of that sum in a sandbox is worth. -/
noncomputable def Tryz.pinned : Pinned := { name := "ytfjfmieadedjoaagreat", sum := "2ccf9c0c94013e99c915c75078f64d4f69cabe22b2ab638a093120026a607b90", checked := Tryz.checked }
namespace Rows
def none {H : Type} : Left H := { results := [], args := [] }

/-- 'merestonelaw08.BendMoves': WHATEVER THE INPUT: true; the input reads as it did. -/
def bendMovesSpec : ChangeSpec := { name := "bendMoves", fn := fun _ => fun
  | [d1, d2, d3] => { results := [.lit (.bool true)], args := [d1, d2, d3] }
  | _ => none }
def bendMovesRow : OpenClaim := { program := "ytfjfmieadedjoaagreat", sum := "2ccf9c0c94013e99c915c75078f64d4f69cabe22b2ab638a093120026a607b90", func := "merestone/merestonelaw08.BendMoves", spec := "bendMoves", inPlace := ["math/bits.Sub64", "math/bits.Add64"], unfollowed := true, recurses := true, plainKeys := false, apart := false }
def BendMovesSaid : Prop := bendMovesRow.holds Tryz.pinned (OpenSpec.ofChange bendMovesSpec)

/-- ITS FALSE NEIGHBOUR: 'it returns false'. Refute it at one input. -/
def bendMovesWrong : ChangeSpec := { name := "bendMoves", fn := fun _ => fun
  | [d1, d2, d3] => { results := [.lit (.bool false)], args := [d1, d2, d3] }
  | _ => none }
def BendMovesWrongFalsely : Prop := bendMovesRow.holds Tryz.pinned (OpenSpec.ofChange bendMovesWrong)

/-- 'merestonelaw08.BendMarks': WHATEVER THE INPUT: true; the input reads as it did. -/
def bendMarksSpec : ChangeSpec := { name := "bendMarks", fn := fun _ => fun
  | [d1, d2] => { results := [.lit (.bool true)], args := [d1, d2] }
  | _ => none }
def bendMarksRow : OpenClaim := { program := "ytfjfmieadedjoaagreat", sum := "2ccf9c0c94013e99c915c75078f64d4f69cabe22b2ab638a093120026a607b90", func := "merestone/merestonelaw08.BendMarks", spec := "bendMarks", inPlace := ["math/bits.Sub64", "math/bits.Add64"], unfollowed := true, recurses := true, plainKeys := false, apart := false }
def BendMarksSaid : Prop := bendMarksRow.holds Tryz.pinned (OpenSpec.ofChange bendMarksSpec)

/-- ITS FALSE NEIGHBOUR: 'it returns false'. Refute it at one input. -/
def bendMarksWrong : ChangeSpec := { name := "bendMarks", fn := fun _ => fun
  | [d1, d2] => { results := [.lit (.bool false)], args := [d1, d2] }
  | _ => none }
def BendMarksWrongFalsely : Prop := bendMarksRow.holds Tryz.pinned (OpenSpec.ofChange bendMarksWrong)

/-- 'merestonelaw08.BendClears': WHATEVER THE INPUT: true; the input reads as it did. -/
def bendClearsSpec : ChangeSpec := { name := "bendClears", fn := fun _ => fun
  | [d1, d2] => { results := [.lit (.bool true)], args := [d1, d2] }
  | _ => none }
def bendClearsRow : OpenClaim := { program := "ytfjfmieadedjoaagreat", sum := "2ccf9c0c94013e99c915c75078f64d4f69cabe22b2ab638a093120026a607b90", func := "merestone/merestonelaw08.BendClears", spec := "bendClears", inPlace := ["math/bits.Sub64", "math/bits.Add64"], unfollowed := true, recurses := true, plainKeys := false, apart := false }
def BendClearsSaid : Prop := bendClearsRow.holds Tryz.pinned (OpenSpec.ofChange bendClearsSpec)

/-- ITS FALSE NEIGHBOUR: 'it returns false'. Refute it at one input. -/
def bendClearsWrong : ChangeSpec := { name := "bendClears", fn := fun _ => fun
  | [d1, d2] => { results := [.lit (.bool false)], args := [d1, d2] }
  | _ => none }
def BendClearsWrongFalsely : Prop := bendClearsRow.holds Tryz.pinned (OpenSpec.ofChange bendClearsWrong)

/-- 'merestonelaw08.BendSums': WHATEVER THE INPUT: true; the input reads as it did. -/
def bendSumsSpec : ChangeSpec := { name := "bendSums", fn := fun _ => fun
  | [d1, d2, d3] => { results := [.lit (.bool true)], args := [d1, d2, d3] }
  | _ => none }
def bendSumsRow : OpenClaim := { program := "ytfjfmieadedjoaagreat", sum := "2ccf9c0c94013e99c915c75078f64d4f69cabe22b2ab638a093120026a607b90", func := "merestone/merestonelaw08.BendSums", spec := "bendSums", inPlace := ["math/bits.Sub64", "math/bits.Add64"], unfollowed := true, recurses := true, plainKeys := false, apart := false }
def BendSumsSaid : Prop := bendSumsRow.holds Tryz.pinned (OpenSpec.ofChange bendSumsSpec)

/-- ITS FALSE NEIGHBOUR: 'it returns false'. Refute it at one input. -/
def bendSumsWrong : ChangeSpec := { name := "bendSums", fn := fun _ => fun
  | [d1, d2, d3] => { results := [.lit (.bool false)], args := [d1, d2, d3] }
  | _ => none }
def BendSumsWrongFalsely : Prop := bendSumsRow.holds Tryz.pinned (OpenSpec.ofChange bendSumsWrong)

/-- 'merestonelaw08.BendSame': WHATEVER THE INPUT: true; the input reads as it did. -/
def bendSameSpec : ChangeSpec := { name := "bendSame", fn := fun _ => fun
  | [d1, d2, d3] => { results := [.lit (.bool true)], args := [d1, d2, d3] }
  | _ => none }
def bendSameRow : OpenClaim := { program := "ytfjfmieadedjoaagreat", sum := "2ccf9c0c94013e99c915c75078f64d4f69cabe22b2ab638a093120026a607b90", func := "merestone/merestonelaw08.BendSame", spec := "bendSame", inPlace := ["math/bits.Sub64", "math/bits.Add64"], unfollowed := true, recurses := true, plainKeys := false, apart := false }
def BendSameSaid : Prop := bendSameRow.holds Tryz.pinned (OpenSpec.ofChange bendSameSpec)

/-- ITS FALSE NEIGHBOUR: 'it returns false'. Refute it at one input. -/
def bendSameWrong : ChangeSpec := { name := "bendSame", fn := fun _ => fun
  | [d1, d2, d3] => { results := [.lit (.bool false)], args := [d1, d2, d3] }
  | _ => none }
def BendSameWrongFalsely : Prop := bendSameRow.holds Tryz.pinned (OpenSpec.ofChange bendSameWrong)

/- THE SECOND FORM. 'bulk': how many values and letters a reading holds, each counted each time it is reached (what is shared counts as often as it is met; a slice's spare places count too). A statement '..UptoSaid' is the law's where the arguments, and the package variables that the reading takes, are together of bulk at most 1048576: NARROWER than '..Said'. Prove '..Said' where nothing that the law and all that it calls make is longer than what came in: it says more and counts as full. Else prove '..UptoSaid'. A law counts once. -/
mutual
def uptoBulk {H : Type} : DataW H → Nat
  | .lit (.string bytes) => bytes.length + 1
  | .lit _ => 1
  | .nil => 1
  | .ptr d => uptoBulk d + 1
  | .slice elems spare => uptoBulkAll elems + uptoBulkAll spare + 1
  | .agg parts => uptoBulkAll parts + 1
  | .iface _ d => uptoBulk d + 1
  | .map entries => uptoBulkEntries entries + 1
  | .held _ => 1
def uptoBulkAll {H : Type} : List (DataW H) → Nat
  | [] => 0
  | d :: r => uptoBulk d + uptoBulkAll r
def uptoBulkEntries {H : Type} : List (Lit × DataW H) → Nat
  | [] => 0
  | x :: r => uptoBulkEntry x + uptoBulkEntries r
def uptoBulkEntry {H : Type} : Lit × DataW H → Nat
  | (.string bytes, d) => bytes.length + uptoBulk d + 1
  | (_, d) => uptoBulk d + 1
 end
def uptoSmall : (H : Type) → List (DataW H) → Bool := fun _ ds => decide (uptoBulkAll ds ≤ 1048576)
def OpenSpec.upto (s : _root_.Go.ChangeSpec) : _root_.Go.OpenSpec := { _root_.Go.OpenSpec.ofChange s with cond := some uptoSmall }

/-- 'merestonelaw08.BendMoves', WHERE WHAT IT READS IS OF BULK AT MOST 1048576: true; the input reads as it did. -/
def bendMovesUptoRow : OpenClaim := { program := "ytfjfmieadedjoaagreat", sum := "2ccf9c0c94013e99c915c75078f64d4f69cabe22b2ab638a093120026a607b90", func := "merestone/merestonelaw08.BendMoves", spec := "bendMoves", inPlace := ["math/bits.Sub64", "math/bits.Add64"], unfollowed := true, recurses := true, plainKeys := false, apart := false, narrowed := true }
def BendMovesUptoSaid : Prop := bendMovesUptoRow.holds Tryz.pinned (OpenSpec.upto bendMovesSpec)

/-- 'merestonelaw08.BendMarks', WHERE WHAT IT READS IS OF BULK AT MOST 1048576: true; the input reads as it did. -/
def bendMarksUptoRow : OpenClaim := { program := "ytfjfmieadedjoaagreat", sum := "2ccf9c0c94013e99c915c75078f64d4f69cabe22b2ab638a093120026a607b90", func := "merestone/merestonelaw08.BendMarks", spec := "bendMarks", inPlace := ["math/bits.Sub64", "math/bits.Add64"], unfollowed := true, recurses := true, plainKeys := false, apart := false, narrowed := true }
def BendMarksUptoSaid : Prop := bendMarksUptoRow.holds Tryz.pinned (OpenSpec.upto bendMarksSpec)

/-- 'merestonelaw08.BendClears', WHERE WHAT IT READS IS OF BULK AT MOST 1048576: true; the input reads as it did. -/
def bendClearsUptoRow : OpenClaim := { program := "ytfjfmieadedjoaagreat", sum := "2ccf9c0c94013e99c915c75078f64d4f69cabe22b2ab638a093120026a607b90", func := "merestone/merestonelaw08.BendClears", spec := "bendClears", inPlace := ["math/bits.Sub64", "math/bits.Add64"], unfollowed := true, recurses := true, plainKeys := false, apart := false, narrowed := true }
def BendClearsUptoSaid : Prop := bendClearsUptoRow.holds Tryz.pinned (OpenSpec.upto bendClearsSpec)

/-- 'merestonelaw08.BendSums', WHERE WHAT IT READS IS OF BULK AT MOST 1048576: true; the input reads as it did. -/
def bendSumsUptoRow : OpenClaim := { program := "ytfjfmieadedjoaagreat", sum := "2ccf9c0c94013e99c915c75078f64d4f69cabe22b2ab638a093120026a607b90", func := "merestone/merestonelaw08.BendSums", spec := "bendSums", inPlace := ["math/bits.Sub64", "math/bits.Add64"], unfollowed := true, recurses := true, plainKeys := false, apart := false, narrowed := true }
def BendSumsUptoSaid : Prop := bendSumsUptoRow.holds Tryz.pinned (OpenSpec.upto bendSumsSpec)

/-- 'merestonelaw08.BendSame', WHERE WHAT IT READS IS OF BULK AT MOST 1048576: true; the input reads as it did. -/
def bendSameUptoRow : OpenClaim := { program := "ytfjfmieadedjoaagreat", sum := "2ccf9c0c94013e99c915c75078f64d4f69cabe22b2ab638a093120026a607b90", func := "merestone/merestonelaw08.BendSame", spec := "bendSame", inPlace := ["math/bits.Sub64", "math/bits.Add64"], unfollowed := true, recurses := true, plainKeys := false, apart := false, narrowed := true }
def BendSameUptoSaid : Prop := bendSameUptoRow.holds Tryz.pinned (OpenSpec.upto bendSameSpec)

end Rows
end Go.Proofs.YtfjfmieadedjoaaGreat
