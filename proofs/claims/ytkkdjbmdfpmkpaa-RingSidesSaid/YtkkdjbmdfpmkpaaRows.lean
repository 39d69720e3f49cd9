/-
  No cell of these rows narrows 'for every input' (looked for: loops, veiled, ifaces, maps, wideKeys, modest, calm, conditions, laid).
  DERIVED. THE GIVEN ROWS OF THIS SEAT. 6 by the template 'for every input the law returns true; each argument reads behind the call as it read before'; 0 by the template 'total and deterministic' (their statements: YtkkdjbmdfpmkpaaTotals.lean).
  GIVEN WITH THE SEED: the statements are not yours to turn. If you find one false, say at which input.
  Laid BY PROGRAM, IN A SANDBOX (cutbox-rows.mjs): the forced cells as the released guide's own fill.sh prints them over the translation 5bef2c842caed611… (all of the seat's roots in one cut). By AI agents, Wed Nov 11 2026. No macro, syntax, notation, axiom, sorry.
-/
import Derived.Test.YtkkdjbmdfpmkpaaChecked
import GoSem.Claim
import GoSem.ClaimJoined
import GoSem.ClaimMapViews
import Derived.JoinedTies
import Derived.KernelRfl
namespace Go.Proofs.Ytkkdjbmdfpmkpaa
/- THE CELL 'sum', in the pinned program and in every row, IS THE sha256 OF THE DUMP (.gsa) THAT YtkkdjbmdfpmkpaaProg.lean LOADS. Nothing in Lean hashes anything: it is a label: what it is worth is what the hold of that sum in a sandbox is worth. -/
noncomputable def Try.pinned : Pinned := { name := "ytkkdjbmdfpmkpaa", sum := "5bef2c842caed6116530e82d3e34d0637da071b741f42496d05b9fb2c25e7d86", checked := Try.checked }
namespace Rows
def none {H : Type} : Left H := { results := [], args := [] }

/-- 'merestonelaw03.RingChecks': WHATEVER THE INPUT: true; the input reads as it did. -/
def ringChecksSpec : ChangeSpec := { name := "ringChecks", fn := fun _ => fun
  | [d] => { results := [.lit (.bool true)], args := [d] }
  | _ => none }
def ringChecksRow : OpenClaim := { program := "ytkkdjbmdfpmkpaa", sum := "5bef2c842caed6116530e82d3e34d0637da071b741f42496d05b9fb2c25e7d86", func := "merestone/merestonelaw03.RingChecks", spec := "ringChecks", inPlace := ["math/bits.Sub64", "math/bits.Add64"], unfollowed := true, recurses := true, apart := false }
def RingChecksSaid : Prop := ringChecksRow.holds Try.pinned (OpenSpec.ofChange ringChecksSpec)

/-- ITS FALSE NEIGHBOUR: 'it returns false'. Refute it at one input. -/
def ringChecksWrong : ChangeSpec := { name := "ringChecks", fn := fun _ => fun
  | [d] => { results := [.lit (.bool false)], args := [d] }
  | _ => none }
def RingChecksWrongFalsely : Prop := ringChecksRow.holds Try.pinned (OpenSpec.ofChange ringChecksWrong)

/-- 'merestonelaw03.RingSides': WHATEVER THE INPUT: true; the input reads as it did. -/
def ringSidesSpec : ChangeSpec := { name := "ringSides", fn := fun _ => fun
  | [d1, d2] => { results := [.lit (.bool true)], args := [d1, d2] }
  | _ => none }
def ringSidesRow : OpenClaim := { program := "ytkkdjbmdfpmkpaa", sum := "5bef2c842caed6116530e82d3e34d0637da071b741f42496d05b9fb2c25e7d86", func := "merestone/merestonelaw03.RingSides", spec := "ringSides", inPlace := ["math/bits.Sub64", "math/bits.Add64"], unfollowed := true, recurses := true, apart := false }
def RingSidesSaid : Prop := ringSidesRow.holds Try.pinned (OpenSpec.ofChange ringSidesSpec)

/-- ITS FALSE NEIGHBOUR: 'it returns false'. Refute it at one input. -/
def ringSidesWrong : ChangeSpec := { name := "ringSides", fn := fun _ => fun
  | [d1, d2] => { results := [.lit (.bool false)], args := [d1, d2] }
  | _ => none }
def RingSidesWrongFalsely : Prop := ringSidesRow.holds Try.pinned (OpenSpec.ofChange ringSidesWrong)

/-- 'merestonelaw03.RingNorms': WHATEVER THE INPUT: true; the input reads as it did. -/
def ringNormsSpec : ChangeSpec := { name := "ringNorms", fn := fun _ => fun
  | [d] => { results := [.lit (.bool true)], args := [d] }
  | _ => none }
def ringNormsRow : OpenClaim := { program := "ytkkdjbmdfpmkpaa", sum := "5bef2c842caed6116530e82d3e34d0637da071b741f42496d05b9fb2c25e7d86", func := "merestone/merestonelaw03.RingNorms", spec := "ringNorms", inPlace := ["math/bits.Sub64", "math/bits.Add64"], unfollowed := true, recurses := true, apart := false }
def RingNormsSaid : Prop := ringNormsRow.holds Try.pinned (OpenSpec.ofChange ringNormsSpec)

/-- ITS FALSE NEIGHBOUR: 'it returns false'. Refute it at one input. -/
def ringNormsWrong : ChangeSpec := { name := "ringNorms", fn := fun _ => fun
  | [d] => { results := [.lit (.bool false)], args := [d] }
  | _ => none }
def RingNormsWrongFalsely : Prop := ringNormsRow.holds Try.pinned (OpenSpec.ofChange ringNormsWrong)

/-- 'merestonelaw03.RingBegins': WHATEVER THE INPUT: true; the input reads as it did. -/
def ringBeginsSpec : ChangeSpec := { name := "ringBegins", fn := fun _ => fun
  | [d1, d2, d3] => { results := [.lit (.bool true)], args := [d1, d2, d3] }
  | _ => none }
def ringBeginsRow : OpenClaim := { program := "ytkkdjbmdfpmkpaa", sum := "5bef2c842caed6116530e82d3e34d0637da071b741f42496d05b9fb2c25e7d86", func := "merestone/merestonelaw03.RingBegins", spec := "ringBegins", inPlace := ["math/bits.Sub64", "math/bits.Add64"], unfollowed := true, recurses := true, apart := false }
def RingBeginsSaid : Prop := ringBeginsRow.holds Try.pinned (OpenSpec.ofChange ringBeginsSpec)

/-- ITS FALSE NEIGHBOUR: 'it returns false'. Refute it at one input. -/
def ringBeginsWrong : ChangeSpec := { name := "ringBegins", fn := fun _ => fun
  | [d1, d2, d3] => { results := [.lit (.bool false)], args := [d1, d2, d3] }
  | _ => none }
def RingBeginsWrongFalsely : Prop := ringBeginsRow.holds Try.pinned (OpenSpec.ofChange ringBeginsWrong)

/-- 'merestonelaw03.RingMarks': WHATEVER THE INPUT: true; the input reads as it did. -/
def ringMarksSpec : ChangeSpec := { name := "ringMarks", fn := fun _ => fun
  | [d1, d2, d3, d4] => { results := [.lit (.bool true)], args := [d1, d2, d3, d4] }
  | _ => none }
def ringMarksRow : OpenClaim := { program := "ytkkdjbmdfpmkpaa", sum := "5bef2c842caed6116530e82d3e34d0637da071b741f42496d05b9fb2c25e7d86", func := "merestone/merestonelaw03.RingMarks", spec := "ringMarks", inPlace := ["math/bits.Sub64", "math/bits.Add64"], unfollowed := true, recurses := true, apart := false }
def RingMarksSaid : Prop := ringMarksRow.holds Try.pinned (OpenSpec.ofChange ringMarksSpec)

/-- ITS FALSE NEIGHBOUR: 'it returns false'. Refute it at one input. -/
def ringMarksWrong : ChangeSpec := { name := "ringMarks", fn := fun _ => fun
  | [d1, d2, d3, d4] => { results := [.lit (.bool false)], args := [d1, d2, d3, d4] }
  | _ => none }
def RingMarksWrongFalsely : Prop := ringMarksRow.holds Try.pinned (OpenSpec.ofChange ringMarksWrong)

/-- 'merestonelaw03.RingShifts': WHATEVER THE INPUT: true; the input reads as it did. -/
def ringShiftsSpec : ChangeSpec := { name := "ringShifts", fn := fun _ => fun
  | [d1, d2, d3, d4] => { results := [.lit (.bool true)], args := [d1, d2, d3, d4] }
  | _ => none }
def ringShiftsRow : OpenClaim := { program := "ytkkdjbmdfpmkpaa", sum := "5bef2c842caed6116530e82d3e34d0637da071b741f42496d05b9fb2c25e7d86", func := "merestone/merestonelaw03.RingShifts", spec := "ringShifts", inPlace := ["math/bits.Sub64", "math/bits.Add64"], unfollowed := true, recurses := true, apart := false }
def RingShiftsSaid : Prop := ringShiftsRow.holds Try.pinned (OpenSpec.ofChange ringShiftsSpec)

/-- ITS FALSE NEIGHBOUR: 'it returns false'. Refute it at one input. -/
def ringShiftsWrong : ChangeSpec := { name := "ringShifts", fn := fun _ => fun
  | [d1, d2, d3, d4] => { results := [.lit (.bool false)], args := [d1, d2, d3, d4] }
  | _ => none }
def RingShiftsWrongFalsely : Prop := ringShiftsRow.holds Try.pinned (OpenSpec.ofChange ringShiftsWrong)

/- THE SECOND FORM. 'bulk': how many values and letters a reading holds, each counted each time it is reached (what is shared counts as often as it is met; a slice's spare places count too). A statement '..UptoSaid' is the law's where the arguments, and the package variables that the reading takes, are together of bulk at most 1048576: NARROWER than '..Said'. Prove '..Said' where nothing that the law and all that it calls make is longer than what came in: it says more and counts as full. Else prove '..UptoSaid'. A law counts once. -/
mutual
def uptoBulk {H : Type} : DataW H → Nat
  | .lit (.string bytes) => bytes.length + 1
  | .lit _ => 1
  | .nil => 1
  | .ptr d => uptoBulk d + 1
  | .slice elems spare => uptoBulkAll elems + uptoBulkAll spare + 1
  | .agg parts => uptoBulkAll parts + 1
  | .iface _ d => uptoBulk d + 1
  | .map entries => uptoBulkEntries entries + 1
  | .held _ => 1
def uptoBulkAll {H : Type} : List (DataW H) → Nat
  | [] => 0
  | d :: r => uptoBulk d + uptoBulkAll r
def uptoBulkEntries {H : Type} : List (Lit × DataW H) → Nat
  | [] => 0
  | x :: r => uptoBulkEntry x + uptoBulkEntries r
def uptoBulkEntry {H : Type} : Lit × DataW H → Nat
  | (.string bytes, d) => bytes.length + uptoBulk d + 1
  | (_, d) => uptoBulk d + 1
 end
def uptoSmall : (H : Type) → List (DataW H) → Bool := fun _ ds => decide (uptoBulkAll ds ≤ 1048576)
def OpenSpec.upto (s : _root_.Go.ChangeSpec) : _root_.Go.OpenSpec := { _root_.Go.OpenSpec.ofChange s with cond := some uptoSmall }

/-- 'merestonelaw03.RingChecks', WHERE WHAT IT READS IS OF BULK AT MOST 1048576: true; the input reads as it did. -/
def ringChecksUptoRow : OpenClaim := { program := "ytkkdjbmdfpmkpaa", sum := "5bef2c842caed6116530e82d3e34d0637da071b741f42496d05b9fb2c25e7d86", func := "merestone/merestonelaw03.RingChecks", spec := "ringChecks", inPlace := ["math/bits.Sub64", "math/bits.Add64"], unfollowed := true, recurses := true, apart := false, narrowed := true }
def RingChecksUptoSaid : Prop := ringChecksUptoRow.holds Try.pinned (OpenSpec.upto ringChecksSpec)

/-- 'merestonelaw03.RingSides', WHERE WHAT IT READS IS OF BULK AT MOST 1048576: true; the input reads as it did. -/
def ringSidesUptoRow : OpenClaim := { program := "ytkkdjbmdfpmkpaa", sum := "5bef2c842caed6116530e82d3e34d0637da071b741f42496d05b9fb2c25e7d86", func := "merestone/merestonelaw03.RingSides", spec := "ringSides", inPlace := ["math/bits.Sub64", "math/bits.Add64"], unfollowed := true, recurses := true, apart := false, narrowed := true }
def RingSidesUptoSaid : Prop := ringSidesUptoRow.holds Try.pinned (OpenSpec.upto ringSidesSpec)

/-- 'merestonelaw03.RingNorms', WHERE WHAT IT READS IS OF BULK AT MOST 1048576: true; the input reads as it did. -/
def ringNormsUptoRow : OpenClaim := { program := "ytkkdjbmdfpmkpaa", sum := "5bef2c842caed6116530e82d3e34d0637da071b741f42496d05b9fb2c25e7d86", func := "merestone/merestonelaw03.RingNorms", spec := "ringNorms", inPlace := ["math/bits.Sub64", "math/bits.Add64"], unfollowed := true, recurses := true, apart := false, narrowed := true }
def RingNormsUptoSaid : Prop := ringNormsUptoRow.holds Try.pinned (OpenSpec.upto ringNormsSpec)

/-- 'merestonelaw03.RingBegins', WHERE WHAT IT READS IS OF BULK AT MOST 1048576: true; the input reads as it did. -/
def ringBeginsUptoRow : OpenClaim := { program := "ytkkdjbmdfpmkpaa", sum := "5bef2c842caed6116530e82d3e34d0637da071b741f42496d05b9fb2c25e7d86", func := "merestone/merestonelaw03.RingBegins", spec := "ringBegins", inPlace := ["math/bits.Sub64", "math/bits.Add64"], unfollowed := true, recurses := true, apart := false, narrowed := true }
def RingBeginsUptoSaid : Prop := ringBeginsUptoRow.holds Try.pinned (OpenSpec.upto ringBeginsSpec)

/-- 'merestonelaw03.RingMarks', WHERE WHAT IT READS IS OF BULK AT MOST 1048576: true; the input reads as it did. -/
def ringMarksUptoRow : OpenClaim := { program := "ytkkdjbmdfpmkpaa", sum := "5bef2c842caed6116530e82d3e34d0637da071b741f42496d05b9fb2c25e7d86", func := "merestone/merestonelaw03.RingMarks", spec := "ringMarks", inPlace := ["math/bits.Sub64", "math/bits.Add64"], unfollowed := true, recurses := true, apart := false, narrowed := true }
def RingMarksUptoSaid : Prop := ringMarksUptoRow.holds Try.pinned (OpenSpec.upto ringMarksSpec)

/-- 'merestonelaw03.RingShifts', WHERE WHAT IT READS IS OF BULK AT MOST 1048576: true; the input reads as it did. -/
def ringShiftsUptoRow : OpenClaim := { program := "ytkkdjbmdfpmkpaa", sum := "5bef2c842caed6116530e82d3e34d0637da071b741f42496d05b9fb2c25e7d86", func := "merestone/merestonelaw03.RingShifts", spec := "ringShifts", inPlace := ["math/bits.Sub64", "math/bits.Add64"], unfollowed := true, recurses := true, apart := false, narrowed := true }
def RingShiftsUptoSaid : Prop := ringShiftsUptoRow.holds Try.pinned (OpenSpec.upto ringShiftsSpec)

end Rows
end Go.Proofs.Ytkkdjbmdfpmkpaa
