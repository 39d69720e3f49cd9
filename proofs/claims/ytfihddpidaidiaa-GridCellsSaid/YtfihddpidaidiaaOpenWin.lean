/- How a window and four small numbers come in. -/
import Derived.Test.YtfihddpidaidiaaOpenRing
set_option maxRecDepth 100000
namespace Go.Proofs.Ytfihddpidaidiaa
open Go.Joins Go.ChangeShapes Go.WideShapes Go.ChangeAt Go.RowKit

section
variable {H : Type} {enc : TypeId × Value → H} {w : World} {base : Nat} {spare : Nat → Bool} {held : Bool}
theorem array4 {α : Type} {cs : Array α} (h : cs.size = 4) : ∃ a b c d, cs = #[a, b, c, d] := by
  match cs, h with
  | ⟨[a, b, c, d]⟩, _ => exact ⟨a, b, c, d, rfl⟩
/-- Two cells that read as a point are two numbers of 64 bits. -/
theorem trod_point {n : Nat} {c0 c1 : Value} {y : DataW H × List MemPlace} (h : DataW.trod enc Try.prog w base spare held n 23 [c0, c1] = some y) : ∃ q : Int × Int, c0 = .int .i64 q.1 ∧ c1 = .int .i64 q.2 := by
  obtain ⟨y0, y1, m, -, -, h0, h1⟩ := trod_struct2 Try.underlying23 h
  obtain ⟨a, e0, -, -⟩ := DataW.trod_int Try.underlying3 h0
  obtain ⟨b, e1, -, -⟩ := DataW.trod_int Try.underlying3 h1
  refine ⟨(a, b), ?_, ?_⟩
  · simpa [show Try.prog.cellsOf 3 = 1 by kernel_rfl] using e0
  · simpa [show Try.prog.cellsOf 3 = 1 by kernel_rfl] using e1
theorem open_window {r : Reach} {b0 : Nat} {v : Value} {d : DataW H} {p : List MemPlace} (hv : Value.okWide Try.prog w r b0 34 v) (h : DataW.Trod enc Try.prog w base spare held 34 v d p) :
    ∃ a b : Int × Int, v = .agg #[.int .i64 a.1, .int .i64 a.2, .int .i64 b.1, .int .i64 b.2] := by
  obtain ⟨cs, rfl, hsz⟩ := okWide_struct Try.underlying34 hv
  obtain ⟨c0, c1, c2, c3, rfl⟩ := array4 (hsz.trans (show Try.prog.cellsOf 34 = 4 by kernel_rfl))
  obtain ⟨fuel, hf⟩ := h
  obtain ⟨y0, y1, m, -, -, h0, h1⟩ := trod_struct2 Try.underlying34 hf
  simp only [show Try.prog.cellsOf 23 = 2 by kernel_rfl, Value.cells, List.drop_zero, List.take_succ_cons, List.take_zero, List.drop_succ_cons] at h0 h1
  obtain ⟨a, rfl, rfl⟩ := trod_point h0
  obtain ⟨b, rfl, rfl⟩ := trod_point h1
  exact ⟨a, b, rfl⟩
end
end Go.Proofs.Ytfihddpidaidiaa
