/-
  No cell of these rows narrows 'for every input' (looked for: loops, veiled, ifaces, maps, wideKeys, modest, calm, conditions, laid).
  DERIVED. THE GIVEN ROWS OF THIS SEAT. 11 by the template 'for every input the law returns true; each argument reads behind the call as it read before'; 0 by the template 'total and deterministic' (their statements: YtbcmnhbpomjinaaGreatTotals.lean).
  GIVEN WITH THE SEED: the statements are not yours to turn. If you find one false, say at which input.
  Laid BY PROGRAM, IN A SANDBOX (cutbox-rows.mjs): the forced cells as the released guide's own fill.sh prints them over the translation 7466bf6ac7cd40e5… (all of the seat's roots in one cut). By AI agents, Wed Nov 11 2026. No macro, syntax, notation, axiom, sorry.
-/
import Derived.Test.YtbcmnhbpomjinaaGreatChecked
import GoSem.Claim
import GoSem.ClaimJoined
import GoSem.ClaimMapViews
import Derived.JoinedTies
import Derived.KernelRfl
namespace Go.Proofs.YtbcmnhbpomjinaaGreat
/- THE CELL 'sum', in the pinned program and in every row, IS THE sha256 OF THE DUMP (.gsa) THAT YtbcmnhbpomjinaaGreatProg.lean LOADS. Nothing in Lean hashes anything: it is a label: what it is worth is what the hold of that sum in a sandbox is worth. -/
noncomputable def Tryz.pinned : Pinned := { name := "ytbcmnhbpomjinaagreat", sum := "7466bf6ac7cd40e5eff7fdc206be5f36930de203e4efa3ce2fc81be44f62057e", checked := Tryz.checked }
namespace Rows
def none {H : Type} : Left H := { results := [], args := [] }

/-- 'merestonelaw05.PlanFinds': WHATEVER THE INPUT: true; the input reads as it did. -/
def planFindsSpec : ChangeSpec := { name := "planFinds", fn := fun _ => fun
  | [d1, d2, d3, d4] => { results := [.lit (.bool true)], args := [d1, d2, d3, d4] }
  | _ => none }
def planFindsRow : OpenClaim := { program := "ytbcmnhbpomjinaagreat", sum := "7466bf6ac7cd40e5eff7fdc206be5f36930de203e4efa3ce2fc81be44f62057e", func := "merestone/merestonelaw05.PlanFinds", spec := "planFinds", inPlace := ["math/bits.Sub64", "math/bits.Add64"], unfollowed := true, recurses := true, plainKeys := false, apart := false }
def PlanFindsSaid : Prop := planFindsRow.holds Tryz.pinned (OpenSpec.ofChange planFindsSpec)

/-- ITS FALSE NEIGHBOUR: 'it returns false'. Refute it at one input. -/
def planFindsWrong : ChangeSpec := { name := "planFinds", fn := fun _ => fun
  | [d1, d2, d3, d4] => { results := [.lit (.bool false)], args := [d1, d2, d3, d4] }
  | _ => none }
def PlanFindsWrongFalsely : Prop := planFindsRow.holds Tryz.pinned (OpenSpec.ofChange planFindsWrong)

/-- 'merestonelaw05.PlanCovers': WHATEVER THE INPUT: true; the input reads as it did. -/
def planCoversSpec : ChangeSpec := { name := "planCovers", fn := fun _ => fun
  | [d1, d2, d3, d4] => { results := [.lit (.bool true)], args := [d1, d2, d3, d4] }
  | _ => none }
def planCoversRow : OpenClaim := { program := "ytbcmnhbpomjinaagreat", sum := "7466bf6ac7cd40e5eff7fdc206be5f36930de203e4efa3ce2fc81be44f62057e", func := "merestone/merestonelaw05.PlanCovers", spec := "planCovers", inPlace := ["math/bits.Sub64", "math/bits.Add64"], unfollowed := true, recurses := true, plainKeys := false, apart := false }
def PlanCoversSaid : Prop := planCoversRow.holds Tryz.pinned (OpenSpec.ofChange planCoversSpec)

/-- ITS FALSE NEIGHBOUR: 'it returns false'. Refute it at one input. -/
def planCoversWrong : ChangeSpec := { name := "planCovers", fn := fun _ => fun
  | [d1, d2, d3, d4] => { results := [.lit (.bool false)], args := [d1, d2, d3, d4] }
  | _ => none }
def PlanCoversWrongFalsely : Prop := planCoversRow.holds Tryz.pinned (OpenSpec.ofChange planCoversWrong)

/-- 'merestonelaw05.PlanTiles': WHATEVER THE INPUT: true; the input reads as it did. -/
def planTilesSpec : ChangeSpec := { name := "planTiles", fn := fun _ => fun
  | [d1, d2, d3, d4] => { results := [.lit (.bool true)], args := [d1, d2, d3, d4] }
  | _ => none }
def planTilesRow : OpenClaim := { program := "ytbcmnhbpomjinaagreat", sum := "7466bf6ac7cd40e5eff7fdc206be5f36930de203e4efa3ce2fc81be44f62057e", func := "merestone/merestonelaw05.PlanTiles", spec := "planTiles", inPlace := ["math/bits.Sub64", "math/bits.Add64"], unfollowed := true, recurses := true, plainKeys := false, apart := false }
def PlanTilesSaid : Prop := planTilesRow.holds Tryz.pinned (OpenSpec.ofChange planTilesSpec)

/-- ITS FALSE NEIGHBOUR: 'it returns false'. Refute it at one input. -/
def planTilesWrong : ChangeSpec := { name := "planTiles", fn := fun _ => fun
  | [d1, d2, d3, d4] => { results := [.lit (.bool false)], args := [d1, d2, d3, d4] }
  | _ => none }
def PlanTilesWrongFalsely : Prop := planTilesRow.holds Tryz.pinned (OpenSpec.ofChange planTilesWrong)

/-- 'merestonelaw05.PlanChanges': WHATEVER THE INPUT: true; the input reads as it did. -/
def planChangesSpec : ChangeSpec := { name := "planChanges", fn := fun _ => fun
  | [d1, d2] => { results := [.lit (.bool true)], args := [d1, d2] }
  | _ => none }
def planChangesRow : OpenClaim := { program := "ytbcmnhbpomjinaagreat", sum := "7466bf6ac7cd40e5eff7fdc206be5f36930de203e4efa3ce2fc81be44f62057e", func := "merestone/merestonelaw05.PlanChanges", spec := "planChanges", inPlace := ["math/bits.Sub64", "math/bits.Add64", "maps.clone"], unfollowed := true, recurses := true, plainKeys := false, apart := false }
def PlanChangesSaid : Prop := planChangesRow.holds Tryz.pinned (OpenSpec.ofChange planChangesSpec)

/-- ITS FALSE NEIGHBOUR: 'it returns false'. Refute it at one input. -/
def planChangesWrong : ChangeSpec := { name := "planChanges", fn := fun _ => fun
  | [d1, d2] => { results := [.lit (.bool false)], args := [d1, d2] }
  | _ => none }
def PlanChangesWrongFalsely : Prop := planChangesRow.holds Tryz.pinned (OpenSpec.ofChange planChangesWrong)

/-- 'merestonelaw05.PlanEdges': WHATEVER THE INPUT: true; the input reads as it did. -/
def planEdgesSpec : ChangeSpec := { name := "planEdges", fn := fun _ => fun
  | [d1, d2, d3] => { results := [.lit (.bool true)], args := [d1, d2, d3] }
  | _ => none }
def planEdgesRow : OpenClaim := { program := "ytbcmnhbpomjinaagreat", sum := "7466bf6ac7cd40e5eff7fdc206be5f36930de203e4efa3ce2fc81be44f62057e", func := "merestone/merestonelaw05.PlanEdges", spec := "planEdges", inPlace := ["math/bits.Sub64", "math/bits.Add64"], unfollowed := true, recurses := true, plainKeys := false, apart := false }
def PlanEdgesSaid : Prop := planEdgesRow.holds Tryz.pinned (OpenSpec.ofChange planEdgesSpec)

/-- ITS FALSE NEIGHBOUR: 'it returns false'. Refute it at one input. -/
def planEdgesWrong : ChangeSpec := { name := "planEdges", fn := fun _ => fun
  | [d1, d2, d3] => { results := [.lit (.bool false)], args := [d1, d2, d3] }
  | _ => none }
def PlanEdgesWrongFalsely : Prop := planEdgesRow.holds Tryz.pinned (OpenSpec.ofChange planEdgesWrong)

/-- 'merestonelaw06.CutSplits': WHATEVER THE INPUT: true; the input reads as it did. -/
def cutSplitsSpec : ChangeSpec := { name := "cutSplits", fn := fun _ => fun
  | [d1, d2, d3, d4] => { results := [.lit (.bool true)], args := [d1, d2, d3, d4] }
  | _ => none }
def cutSplitsRow : OpenClaim := { program := "ytbcmnhbpomjinaagreat", sum := "7466bf6ac7cd40e5eff7fdc206be5f36930de203e4efa3ce2fc81be44f62057e", func := "merestone/merestonelaw06.CutSplits", spec := "cutSplits", inPlace := ["math/bits.Sub64", "math/bits.Add64"], unfollowed := true, recurses := true, plainKeys := false, apart := false }
def CutSplitsSaid : Prop := cutSplitsRow.holds Tryz.pinned (OpenSpec.ofChange cutSplitsSpec)

/-- ITS FALSE NEIGHBOUR: 'it returns false'. Refute it at one input. -/
def cutSplitsWrong : ChangeSpec := { name := "cutSplits", fn := fun _ => fun
  | [d1, d2, d3, d4] => { results := [.lit (.bool false)], args := [d1, d2, d3, d4] }
  | _ => none }
def CutSplitsWrongFalsely : Prop := cutSplitsRow.holds Tryz.pinned (OpenSpec.ofChange cutSplitsWrong)

/-- 'merestonelaw06.CutAreas': WHATEVER THE INPUT: true; the input reads as it did. -/
def cutAreasSpec : ChangeSpec := { name := "cutAreas", fn := fun _ => fun
  | [d1, d2, d3, d4] => { results := [.lit (.bool true)], args := [d1, d2, d3, d4] }
  | _ => none }
def cutAreasRow : OpenClaim := { program := "ytbcmnhbpomjinaagreat", sum := "7466bf6ac7cd40e5eff7fdc206be5f36930de203e4efa3ce2fc81be44f62057e", func := "merestone/merestonelaw06.CutAreas", spec := "cutAreas", inPlace := ["math/bits.Sub64", "math/bits.Add64"], unfollowed := true, recurses := true, plainKeys := false, apart := false }
def CutAreasSaid : Prop := cutAreasRow.holds Tryz.pinned (OpenSpec.ofChange cutAreasSpec)

/-- ITS FALSE NEIGHBOUR: 'it returns false'. Refute it at one input. -/
def cutAreasWrong : ChangeSpec := { name := "cutAreas", fn := fun _ => fun
  | [d1, d2, d3, d4] => { results := [.lit (.bool false)], args := [d1, d2, d3, d4] }
  | _ => none }
def CutAreasWrongFalsely : Prop := cutAreasRow.holds Tryz.pinned (OpenSpec.ofChange cutAreasWrong)

/-- 'merestonelaw06.CutSides': WHATEVER THE INPUT: true; the input reads as it did. -/
def cutSidesSpec : ChangeSpec := { name := "cutSides", fn := fun _ => fun
  | [d1, d2, d3, d4] => { results := [.lit (.bool true)], args := [d1, d2, d3, d4] }
  | _ => none }
def cutSidesRow : OpenClaim := { program := "ytbcmnhbpomjinaagreat", sum := "7466bf6ac7cd40e5eff7fdc206be5f36930de203e4efa3ce2fc81be44f62057e", func := "merestone/merestonelaw06.CutSides", spec := "cutSides", inPlace := ["math/bits.Sub64", "math/bits.Add64"], unfollowed := true, recurses := true, plainKeys := false, apart := false }
def CutSidesSaid : Prop := cutSidesRow.holds Tryz.pinned (OpenSpec.ofChange cutSidesSpec)

/-- ITS FALSE NEIGHBOUR: 'it returns false'. Refute it at one input. -/
def cutSidesWrong : ChangeSpec := { name := "cutSides", fn := fun _ => fun
  | [d1, d2, d3, d4] => { results := [.lit (.bool false)], args := [d1, d2, d3, d4] }
  | _ => none }
def CutSidesWrongFalsely : Prop := cutSidesRow.holds Tryz.pinned (OpenSpec.ofChange cutSidesWrong)

/-- 'merestonelaw06.CutOnce': WHATEVER THE INPUT: true; the input reads as it did. -/
def cutOnceSpec : ChangeSpec := { name := "cutOnce", fn := fun _ => fun
  | [d1, d2, d3, d4, d5] => { results := [.lit (.bool true)], args := [d1, d2, d3, d4, d5] }
  | _ => none }
def cutOnceRow : OpenClaim := { program := "ytbcmnhbpomjinaagreat", sum := "7466bf6ac7cd40e5eff7fdc206be5f36930de203e4efa3ce2fc81be44f62057e", func := "merestone/merestonelaw06.CutOnce", spec := "cutOnce", inPlace := ["math/bits.Sub64", "math/bits.Add64"], unfollowed := true, recurses := true, plainKeys := false, apart := false }
def CutOnceSaid : Prop := cutOnceRow.holds Tryz.pinned (OpenSpec.ofChange cutOnceSpec)

/-- ITS FALSE NEIGHBOUR: 'it returns false'. Refute it at one input. -/
def cutOnceWrong : ChangeSpec := { name := "cutOnce", fn := fun _ => fun
  | [d1, d2, d3, d4, d5] => { results := [.lit (.bool false)], args := [d1, d2, d3, d4, d5] }
  | _ => none }
def CutOnceWrongFalsely : Prop := cutOnceRow.holds Tryz.pinned (OpenSpec.ofChange cutOnceWrong)

/-- 'merestonelaw06.CutKeeps': WHATEVER THE INPUT: true; the input reads as it did. -/
def cutKeepsSpec : ChangeSpec := { name := "cutKeeps", fn := fun _ => fun
  | [d1, d2, d3, d4] => { results := [.lit (.bool true)], args := [d1, d2, d3, d4] }
  | _ => none }
def cutKeepsRow : OpenClaim := { program := "ytbcmnhbpomjinaagreat", sum := "7466bf6ac7cd40e5eff7fdc206be5f36930de203e4efa3ce2fc81be44f62057e", func := "merestone/merestonelaw06.CutKeeps", spec := "cutKeeps", inPlace := ["math/bits.Sub64", "math/bits.Add64"], unfollowed := true, recurses := true, plainKeys := false, apart := false }
def CutKeepsSaid : Prop := cutKeepsRow.holds Tryz.pinned (OpenSpec.ofChange cutKeepsSpec)

/-- ITS FALSE NEIGHBOUR: 'it returns false'. Refute it at one input. -/
def cutKeepsWrong : ChangeSpec := { name := "cutKeeps", fn := fun _ => fun
  | [d1, d2, d3, d4] => { results := [.lit (.bool false)], args := [d1, d2, d3, d4] }
  | _ => none }
def CutKeepsWrongFalsely : Prop := cutKeepsRow.holds Tryz.pinned (OpenSpec.ofChange cutKeepsWrong)

/-- 'merestonelaw06.CutStrips': WHATEVER THE INPUT: true; the input reads as it did. -/
def cutStripsSpec : ChangeSpec := { name := "cutStrips", fn := fun _ => fun
  | [d1, d2, d3] => { results := [.lit (.bool true)], args := [d1, d2, d3] }
  | _ => none }
def cutStripsRow : OpenClaim := { program := "ytbcmnhbpomjinaagreat", sum := "7466bf6ac7cd40e5eff7fdc206be5f36930de203e4efa3ce2fc81be44f62057e", func := "merestone/merestonelaw06.CutStrips", spec := "cutStrips", inPlace := ["math/bits.Sub64", "math/bits.Add64"], unfollowed := true, recurses := true, plainKeys := false, apart := false }
def CutStripsSaid : Prop := cutStripsRow.holds Tryz.pinned (OpenSpec.ofChange cutStripsSpec)

/-- ITS FALSE NEIGHBOUR: 'it returns false'. Refute it at one input. -/
def cutStripsWrong : ChangeSpec := { name := "cutStrips", fn := fun _ => fun
  | [d1, d2, d3] => { results := [.lit (.bool false)], args := [d1, d2, d3] }
  | _ => none }
def CutStripsWrongFalsely : Prop := cutStripsRow.holds Tryz.pinned (OpenSpec.ofChange cutStripsWrong)

/- THE SECOND FORM. 'bulk': how many values and letters a reading holds, each counted each time it is reached (what is shared counts as often as it is met; a slice's spare places count too). A statement '..UptoSaid' is the law's where the arguments, and the package variables that the reading takes, are together of bulk at most 1048576: NARROWER than '..Said'. Prove '..Said' where nothing that the law and all that it calls make is longer than what came in: it says more and counts as full. Else prove '..UptoSaid'. A law counts once. -/
mutual
def uptoBulk {H : Type} : DataW H → Nat
  | .lit (.string bytes) => bytes.length + 1
  | .lit _ => 1
  | .nil => 1
  | .ptr d => uptoBulk d + 1
  | .slice elems spare => uptoBulkAll elems + uptoBulkAll spare + 1
  | .agg parts => uptoBulkAll parts + 1
  | .iface _ d => uptoBulk d + 1
  | .map entries => uptoBulkEntries entries + 1
  | .held _ => 1
def uptoBulkAll {H : Type} : List (DataW H) → Nat
  | [] => 0
  | d :: r => uptoBulk d + uptoBulkAll r
def uptoBulkEntries {H : Type} : List (Lit × DataW H) → Nat
  | [] => 0
  | x :: r => uptoBulkEntry x + uptoBulkEntries r
def uptoBulkEntry {H : Type} : Lit × DataW H → Nat
  | (.string bytes, d) => bytes.length + uptoBulk d + 1
  | (_, d) => uptoBulk d + 1
 end
def uptoSmall : (H : Type) → List (DataW H) → Bool := fun _ ds => decide (uptoBulkAll ds ≤ 1048576)
def OpenSpec.upto (s : _root_.Go.ChangeSpec) : _root_.Go.OpenSpec := { _root_.Go.OpenSpec.ofChange s with cond := some uptoSmall }

/-- 'merestonelaw05.PlanFinds', WHERE WHAT IT READS IS OF BULK AT MOST 1048576: true; the input reads as it did. -/
def planFindsUptoRow : OpenClaim := { program := "ytbcmnhbpomjinaagreat", sum := "7466bf6ac7cd40e5eff7fdc206be5f36930de203e4efa3ce2fc81be44f62057e", func := "merestone/merestonelaw05.PlanFinds", spec := "planFinds", inPlace := ["math/bits.Sub64", "math/bits.Add64"], unfollowed := true, recurses := true, plainKeys := false, apart := false, narrowed := true }
def PlanFindsUptoSaid : Prop := planFindsUptoRow.holds Tryz.pinned (OpenSpec.upto planFindsSpec)

/-- 'merestonelaw05.PlanCovers', WHERE WHAT IT READS IS OF BULK AT MOST 1048576: true; the input reads as it did. -/
def planCoversUptoRow : OpenClaim := { program := "ytbcmnhbpomjinaagreat", sum := "7466bf6ac7cd40e5eff7fdc206be5f36930de203e4efa3ce2fc81be44f62057e", func := "merestone/merestonelaw05.PlanCovers", spec := "planCovers", inPlace := ["math/bits.Sub64", "math/bits.Add64"], unfollowed := true, recurses := true, plainKeys := false, apart := false, narrowed := true }
def PlanCoversUptoSaid : Prop := planCoversUptoRow.holds Tryz.pinned (OpenSpec.upto planCoversSpec)

/-- 'merestonelaw05.PlanTiles', WHERE WHAT IT READS IS OF BULK AT MOST 1048576: true; the input reads as it did. -/
def planTilesUptoRow : OpenClaim := { program := "ytbcmnhbpomjinaagreat", sum := "7466bf6ac7cd40e5eff7fdc206be5f36930de203e4efa3ce2fc81be44f62057e", func := "merestone/merestonelaw05.PlanTiles", spec := "planTiles", inPlace := ["math/bits.Sub64", "math/bits.Add64"], unfollowed := true, recurses := true, plainKeys := false, apart := false, narrowed := true }
def PlanTilesUptoSaid : Prop := planTilesUptoRow.holds Tryz.pinned (OpenSpec.upto planTilesSpec)

/-- 'merestonelaw05.PlanChanges', WHERE WHAT IT READS IS OF BULK AT MOST 1048576: true; the input reads as it did. -/
def planChangesUptoRow : OpenClaim := { program := "ytbcmnhbpomjinaagreat", sum := "7466bf6ac7cd40e5eff7fdc206be5f36930de203e4efa3ce2fc81be44f62057e", func := "merestone/merestonelaw05.PlanChanges", spec := "planChanges", inPlace := ["math/bits.Sub64", "math/bits.Add64", "maps.clone"], unfollowed := true, recurses := true, plainKeys := false, apart := false, narrowed := true }
def PlanChangesUptoSaid : Prop := planChangesUptoRow.holds Tryz.pinned (OpenSpec.upto planChangesSpec)

/-- 'merestonelaw05.PlanEdges', WHERE WHAT IT READS IS OF BULK AT MOST 1048576: true; the input reads as it did. -/
def planEdgesUptoRow : OpenClaim := { program := "ytbcmnhbpomjinaagreat", sum := "7466bf6ac7cd40e5eff7fdc206be5f36930de203e4efa3ce2fc81be44f62057e", func := "merestone/merestonelaw05.PlanEdges", spec := "planEdges", inPlace := ["math/bits.Sub64", "math/bits.Add64"], unfollowed := true, recurses := true, plainKeys := false, apart := false, narrowed := true }
def PlanEdgesUptoSaid : Prop := planEdgesUptoRow.holds Tryz.pinned (OpenSpec.upto planEdgesSpec)

/-- 'merestonelaw06.CutSplits', WHERE WHAT IT READS IS OF BULK AT MOST 1048576: true; the input reads as it did. -/
def cutSplitsUptoRow : OpenClaim := { program := "ytbcmnhbpomjinaagreat", sum := "7466bf6ac7cd40e5eff7fdc206be5f36930de203e4efa3ce2fc81be44f62057e", func := "merestone/merestonelaw06.CutSplits", spec := "cutSplits", inPlace := ["math/bits.Sub64", "math/bits.Add64"], unfollowed := true, recurses := true, plainKeys := false, apart := false, narrowed := true }
def CutSplitsUptoSaid : Prop := cutSplitsUptoRow.holds Tryz.pinned (OpenSpec.upto cutSplitsSpec)

/-- 'merestonelaw06.CutAreas', WHERE WHAT IT READS IS OF BULK AT MOST 1048576: true; the input reads as it did. -/
def cutAreasUptoRow : OpenClaim := { program := "ytbcmnhbpomjinaagreat", sum := "7466bf6ac7cd40e5eff7fdc206be5f36930de203e4efa3ce2fc81be44f62057e", func := "merestone/merestonelaw06.CutAreas", spec := "cutAreas", inPlace := ["math/bits.Sub64", "math/bits.Add64"], unfollowed := true, recurses := true, plainKeys := false, apart := false, narrowed := true }
def CutAreasUptoSaid : Prop := cutAreasUptoRow.holds Tryz.pinned (OpenSpec.upto cutAreasSpec)

/-- 'merestonelaw06.CutSides', WHERE WHAT IT READS IS OF BULK AT MOST 1048576: true; the input reads as it did. -/
def cutSidesUptoRow : OpenClaim := { program := "ytbcmnhbpomjinaagreat", sum := "7466bf6ac7cd40e5eff7fdc206be5f36930de203e4efa3ce2fc81be44f62057e", func := "merestone/merestonelaw06.CutSides", spec := "cutSides", inPlace := ["math/bits.Sub64", "math/bits.Add64"], unfollowed := true, recurses := true, plainKeys := false, apart := false, narrowed := true }
def CutSidesUptoSaid : Prop := cutSidesUptoRow.holds Tryz.pinned (OpenSpec.upto cutSidesSpec)

/-- 'merestonelaw06.CutOnce', WHERE WHAT IT READS IS OF BULK AT MOST 1048576: true; the input reads as it did. -/
def cutOnceUptoRow : OpenClaim := { program := "ytbcmnhbpomjinaagreat", sum := "7466bf6ac7cd40e5eff7fdc206be5f36930de203e4efa3ce2fc81be44f62057e", func := "merestone/merestonelaw06.CutOnce", spec := "cutOnce", inPlace := ["math/bits.Sub64", "math/bits.Add64"], unfollowed := true, recurses := true, plainKeys := false, apart := false, narrowed := true }
def CutOnceUptoSaid : Prop := cutOnceUptoRow.holds Tryz.pinned (OpenSpec.upto cutOnceSpec)

/-- 'merestonelaw06.CutKeeps', WHERE WHAT IT READS IS OF BULK AT MOST 1048576: true; the input reads as it did. -/
def cutKeepsUptoRow : OpenClaim := { program := "ytbcmnhbpomjinaagreat", sum := "7466bf6ac7cd40e5eff7fdc206be5f36930de203e4efa3ce2fc81be44f62057e", func := "merestone/merestonelaw06.CutKeeps", spec := "cutKeeps", inPlace := ["math/bits.Sub64", "math/bits.Add64"], unfollowed := true, recurses := true, plainKeys := false, apart := false, narrowed := true }
def CutKeepsUptoSaid : Prop := cutKeepsUptoRow.holds Tryz.pinned (OpenSpec.upto cutKeepsSpec)

/-- 'merestonelaw06.CutStrips', WHERE WHAT IT READS IS OF BULK AT MOST 1048576: true; the input reads as it did. -/
def cutStripsUptoRow : OpenClaim := { program := "ytbcmnhbpomjinaagreat", sum := "7466bf6ac7cd40e5eff7fdc206be5f36930de203e4efa3ce2fc81be44f62057e", func := "merestone/merestonelaw06.CutStrips", spec := "cutStrips", inPlace := ["math/bits.Sub64", "math/bits.Add64"], unfollowed := true, recurses := true, plainKeys := false, apart := false, narrowed := true }
def CutStripsUptoSaid : Prop := cutStripsUptoRow.holds Tryz.pinned (OpenSpec.upto cutStripsSpec)

end Rows
end Go.Proofs.YtbcmnhbpomjinaaGreat
