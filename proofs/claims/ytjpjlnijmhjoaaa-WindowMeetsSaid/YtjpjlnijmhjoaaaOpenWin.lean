/- How a window and four small numbers come in. -/
import Derived.Test.YtjpjlnijmhjoaaaOpenRing
set_option maxRecDepth 100000
namespace Go.Proofs.Ytjpjlnijmhjoaaa
open Go.Joins Go.ChangeShapes Go.WideShapes Go.ChangeAt Go.RowKit

section
variable {H : Type} {enc : TypeId × Value → H} {w : World} {base : Nat} {spare : Nat → Bool} {held : Bool}
theorem array4 {α : Type} {cs : Array α} (h : cs.size = 4) : ∃ a b c d, cs = #[a, b, c, d] := by
  match cs, h with
  | ⟨[a, b, c, d]⟩, _ => exact ⟨a, b, c, d, rfl⟩
/-- Two cells that read as a point are two numbers of 64 bits. -/
theorem trod_point {n : Nat} {c0 c1 : Value} {y : DataW H × List MemPlace} (h : DataW.trod enc Try.prog w base spare held n 23 [c0, c1] = some y) : ∃ q : Int × Int, c0 = .int .i64 q.1 ∧ c1 = .int .i64 q.2 := by
  obtain ⟨y0, y1, m, -, -, h0, h1⟩ := trod_struct2 Try.underlying23 h
  obtain ⟨a, e0, -, -⟩ := DataW.trod_int Try.underlying3 h0
  obtain ⟨b, e1, -, -⟩ := DataW.trod_int Try.underlying3 h1
  refine ⟨(a, b), ?_, ?_⟩
  · simpa [show Try.prog.cellsOf 3 = 1 by kernel_rfl] using e0
  · simpa [show Try.prog.cellsOf 3 = 1 by kernel_rfl] using e1
theorem open_window {r : Reach} {b0 : Nat} {v : Value} {d : DataW H} {p : List MemPlace} (hv : Value.okWide Try.prog w r b0 25 v) (h : DataW.Trod enc Try.prog w base spare held 25 v d p) :
    ∃ a b : Int × Int, v = .agg #[.int .i64 a.1, .int .i64 a.2, .int .i64 b.1, .int .i64 b.2] := by
  obtain ⟨cs, rfl, hsz⟩ := okWide_struct Try.underlying25 hv
  obtain ⟨c0, c1, c2, c3, rfl⟩ := array4 (hsz.trans (show Try.prog.cellsOf 25 = 4 by kernel_rfl))
  obtain ⟨fuel, hf⟩ := h
  obtain ⟨y0, y1, m, -, -, h0, h1⟩ := trod_struct2 Try.underlying25 hf
  simp only [show Try.prog.cellsOf 23 = 2 by kernel_rfl, Value.cells, List.drop_zero, List.take_succ_cons, List.take_zero, List.drop_succ_cons] at h0 h1
  obtain ⟨a, rfl, rfl⟩ := trod_point h0
  obtain ⟨b, rfl, rfl⟩ := trod_point h1
  exact ⟨a, b, rfl⟩
theorem open_bytes4 {r : Reach} {b0 : Nat} {v : Value} {d : DataW H} {p : List MemPlace} (hv : Value.okWide Try.prog w r b0 41 v) (h : DataW.Trod enc Try.prog w base spare held 41 v d p) :
    ∃ m0 m1 m2 m3 : Int, v = .agg #[.int .u8 m0, .int .u8 m1, .int .u8 m2, .int .u8 m3] ∧ (0 ≤ m0 ∧ m0 ≤ 255) ∧ (0 ≤ m1 ∧ m1 ≤ 255) ∧ (0 ≤ m2 ∧ m2 ≤ 255) ∧ (0 ≤ m3 ∧ m3 ≤ 255) := by
  have hu : Try.prog.underlying 41 = some (.array 4 5) := Try.underlying41
  simp only [Value.okWide, hu] at hv
  obtain ⟨cs, rfl, hsz, -⟩ := hv
  obtain ⟨c0, c1, c2, c3, rfl⟩ := array4 (hsz.trans (show Try.prog.cellsOf 41 = 4 by kernel_rfl))
  obtain ⟨fuel, hf⟩ := h
  cases fuel with
  | zero => simp [DataW.trod] at hf
  | succ m =>
    rw [DataW.trod_step] at hf
    unfold DataW.trodStep at hf
    simp only [hu, Value.cells] at hf
    rw [if_pos (by rw [show Try.prog.cellsOf 41 = 4 by kernel_rfl]; rfl)] at hf
    simp only [Option.map_eq_some_iff, show Try.prog.cellsOf 5 = 1 by kernel_rfl, show List.range 4 = [0, 1, 2, 3] from rfl, List.mapM_cons, List.mapM_nil, bind, Option.bind_eq_some_iff, pure, Option.some.injEq] at hf
    obtain ⟨ys, ⟨x0, h0, ys1, ⟨x1, h1, ys2, ⟨x2, h2, ys3, ⟨x3, h3, -⟩, -⟩, -⟩, -⟩, -⟩ := hf
    obtain ⟨m0, e0, -, w0⟩ := DataW.trod_int Try.underlying5 h0
    obtain ⟨m1, e1, -, w1⟩ := DataW.trod_int Try.underlying5 h1
    obtain ⟨m2, e2, -, w2⟩ := DataW.trod_int Try.underlying5 h2
    obtain ⟨m3, e3, -, w3⟩ := DataW.trod_int Try.underlying5 h3
    have b0 := bounds_u8 w0
    have b1 := bounds_u8 w1
    have b2 := bounds_u8 w2
    have b3 := bounds_u8 w3
    obtain rfl : c0 = .int .u8 m0 := by simpa using e0
    obtain rfl : c1 = .int .u8 m1 := by simpa using e1
    obtain rfl : c2 = .int .u8 m2 := by simpa using e2
    obtain rfl : c3 = .int .u8 m3 := by simpa using e3
    exact ⟨m0, m1, m2, m3, rfl, by omega, by omega, by omega, by omega⟩
end
end Go.Proofs.Ytjpjlnijmhjoaaa
