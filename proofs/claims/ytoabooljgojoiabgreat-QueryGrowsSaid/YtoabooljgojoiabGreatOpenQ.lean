/- What the laws on queries open: an edge, a window. -/
import Derived.Test.YtoabooljgojoiabGreatOpenPlan
import Derived.Test.YtoabooljgojoiabGreatMapE
import Derived.Test.YtoabooljgojoiabGreatOpenRing
/- How an edge comes in. -/
set_option maxRecDepth 100000
namespace Go.Proofs.YtoabooljgojoiabGreat
open Go.Joins Go.ChangeShapes Go.WideShapes Go.ChangeAt Go.RowKit
section
variable {H : Type} {enc : TypeId × Value → H} {w : World} {base : Nat} {spare : Nat → Bool} {held : Bool}
theorem array4e {α : Type} {cs : Array α} (h : cs.size = 4) : ∃ a b c d, cs = #[a, b, c, d] := by
 match cs, h with
 |⟨[a, b, c, d]⟩, _ => exact ⟨a, b, c, d, rfl⟩
theorem trod_pointE {n : Nat} {c0 c1 : Value} {y : DataW H × List MemPlace} (h : DataW.trod enc Tryz.prog w base spare held n 28 [c0, c1] = some y) : ∃ q : Int × Int, c0 = .int .i64 q.1 ∧ c1 = .int .i64 q.2 ∧ OkP q := by
 obtain ⟨y0, y1, m, -, -, h0, h1⟩ := trod_struct2 Tryz.underlying28 h
 obtain ⟨a, e0, -, w0⟩ := DataW.trod_int Tryz.underlying3 h0
 obtain ⟨b, e1, -, w1⟩ := DataW.trod_int Tryz.underlying3 h1
 have b0 := bounds_i64 w0
 have b1 := bounds_i64 w1
 refine ⟨(a, b), ?_, ?_, by unfold OkP In64; simp only; omega⟩
 ·simpa [show Tryz.prog.cellsOf 3 = 1 by kernel_rfl] using e0
 ·simpa [show Tryz.prog.cellsOf 3 = 1 by kernel_rfl] using e1
theorem open_edge {r : Reach} {b0 : Nat} {v : Value} {d : DataW H} {p : List MemPlace} (hv : Value.okWide Tryz.prog w r b0 83 v) (h : DataW.Trod enc Tryz.prog w base spare held 83 v d p) :
  ∃ e : (Int × Int) × (Int × Int), v = .agg #[.int .i64 e.1.1, .int .i64 e.1.2, .int .i64 e.2.1, .int .i64 e.2.2] ∧ OkE e := by
 obtain ⟨cs, rfl, hsz⟩ := okWide_struct Tryz.underlying83 hv
 obtain ⟨c0, c1, c2, c3, rfl⟩ := array4e (hsz.trans (show Tryz.prog.cellsOf 83 = 4 by kernel_rfl))
 obtain ⟨fuel, hf⟩ := h
 obtain ⟨y0, y1, m, -, -, h0, h1⟩ := trod_struct2 Tryz.underlying83 hf
 simp only [show Tryz.prog.cellsOf 28 = 2 by kernel_rfl, Value.cells, List.drop_zero, List.take_succ_cons, List.take_zero, List.drop_succ_cons] at h0 h1
 obtain ⟨a, rfl, rfl, ka⟩ := trod_pointE h0
 obtain ⟨b, rfl, rfl, kb⟩ := trod_pointE h1
 exact ⟨(a, b), rfl, ka, kb⟩
end
end Go.Proofs.YtoabooljgojoiabGreat

set_option maxRecDepth 100000
namespace Go.Proofs.YtoabooljgojoiabGreat
open Go.Joins Go.ChangeShapes Go.WideShapes Go.ChangeAt Go.RowKit

section
variable {H : Type} {enc : TypeId × Value → H} {w : World} {base : Nat} {spare : Nat → Bool} {held : Bool}
theorem array4 {α : Type} {cs : Array α} (h : cs.size = 4) : ∃ a b c d, cs = #[a, b, c, d] := by
 match cs, h with
 |⟨[a, b, c, d]⟩, _ => exact ⟨a, b, c, d, rfl⟩
theorem trod_point {n : Nat} {c0 c1 : Value} {y : DataW H × List MemPlace} (h : DataW.trod enc Tryz.prog w base spare held n 28 [c0, c1] = some y) : ∃ q : Int × Int, c0 = .int .i64 q.1 ∧ c1 = .int .i64 q.2 := by
 obtain ⟨y0, y1, m, -, -, h0, h1⟩ := trod_struct2 Tryz.underlying28 h
 obtain ⟨a, e0, -, -⟩ := DataW.trod_int Tryz.underlying3 h0
 obtain ⟨b, e1, -, -⟩ := DataW.trod_int Tryz.underlying3 h1
 refine ⟨(a, b), ?_, ?_⟩
 ·simpa [show Tryz.prog.cellsOf 3 = 1 by kernel_rfl] using e0
 ·simpa [show Tryz.prog.cellsOf 3 = 1 by kernel_rfl] using e1
theorem open_window {r : Reach} {b0 : Nat} {v : Value} {d : DataW H} {p : List MemPlace} (hv : Value.okWide Tryz.prog w r b0 30 v) (h : DataW.Trod enc Tryz.prog w base spare held 30 v d p) :
  ∃ a b : Int × Int, v = .agg #[.int .i64 a.1, .int .i64 a.2, .int .i64 b.1, .int .i64 b.2] := by
 obtain ⟨cs, rfl, hsz⟩ := okWide_struct Tryz.underlying30 hv
 obtain ⟨c0, c1, c2, c3, rfl⟩ := array4 (hsz.trans (show Tryz.prog.cellsOf 30 = 4 by kernel_rfl))
 obtain ⟨fuel, hf⟩ := h
 obtain ⟨y0, y1, m, -, -, h0, h1⟩ := trod_struct2 Tryz.underlying30 hf
 simp only [show Tryz.prog.cellsOf 28 = 2 by kernel_rfl, Value.cells, List.drop_zero, List.take_succ_cons, List.take_zero, List.drop_succ_cons] at h0 h1
 obtain ⟨a, rfl, rfl⟩ := trod_point h0
 obtain ⟨b, rfl, rfl⟩ := trod_point h1
 exact ⟨a, b, rfl⟩
end
end Go.Proofs.YtoabooljgojoiabGreat
