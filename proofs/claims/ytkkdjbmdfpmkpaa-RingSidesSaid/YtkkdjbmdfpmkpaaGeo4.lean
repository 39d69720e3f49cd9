/- The contracts of the program's calls on two stretches: which ends they share, whether all are one, whether a line parts two points, and what they have in common. -/
import Derived.Test.YtkkdjbmdfpmkpaaLists
namespace Go.Proofs.Ytkkdjbmdfpmkpaa
open Go.RowKit

/-- Whether the way from a to b has c on one side, and d on the other. -/
def ptB (a b c d : Int × Int) : Bool := decide (sgn (crs a b c) * sgn (crs a b d) < 0)
theorem ptB_iff {a b c d : Int × Int} : ptB a b c d = true ↔ crs a b c * crs a b d < 0 := by
  unfold ptB; rw [decide_eq_true_iff]; exact sgn_mul
theorem sgn_prod (x y : Int) : -1 ≤ sgn x * sgn y ∧ sgn x * sgn y ≤ 1 := by
  have := mul_lim (x := sgn x) (y := sgn y) (P := 1) (Q := 1) (sgn_bd x) (sgn_bd y)
  omega

set_option maxHeartbeats 800000 in
theorem parts_any (a b c d : Int × Int) (ha : Gd a) (hb : Gd b) (hc : Gd c) (hd : Gd d) (w : World) :
    Calls Try.prog 75 #[.agg #[.int .i64 a.1, .int .i64 a.2], .agg #[.int .i64 b.1, .int .i64 b.2], .agg #[.int .i64 c.1, .int .i64 c.2], .agg #[.int .i64 d.1, .int .i64 d.2]] w fun e w' => e = .returned (.bool (ptB a b c d)) ∧ Below w.heap.size w w' := by
  have hx := fun W => turn_any a b c ha hb hc W
  have hy := fun W => turn_any a b d ha hb hd W
  have HX := Lib.hid hx
  have HY := Lib.hid hy
  have hp := sgn_prod (crs a b c) (crs a b d)
  have q1 := wrap_in (n := sgn (crs a b c) * sgn (crs a b d)) (by omega) (by omega)
  have HG := Lib.hid (show ptB a b c d = decide (sgn (crs a b c) * sgn (crs a b d) < 0) from rfl)
  have HQ := Hold.four0 w a b c d
  clear hx hy ha hb hc hd hp
  go_enter Try.func75, Try.ntmps75
  go_upto_region 1 with (fail)
  generalize (World.alloc _ _) = W1 at HQ ⊢
  generalize w.heap.size + 1 + 1 + 1 = g6 at HQ ⊢
  generalize w.heap.size + 1 + 1 = g5 at HQ ⊢
  generalize w.heap.size + 1 = g4 at HQ ⊢
  go_region_held3 (fun W => W.cell? ⟨w.heap.size, 0, none⟩ = some (.int .i64 a.1) ∧ W.cell? ⟨w.heap.size, 1, none⟩ = some (.int .i64 a.2) ∧ W.cell? ⟨g4, 0, none⟩ = some (.int .i64 b.1) ∧ W.cell? ⟨g4, 1, none⟩ = some (.int .i64 b.2) ∧ W.cell? ⟨g5, 0, none⟩ = some (.int .i64 c.1) ∧ W.cell? ⟨g5, 1, none⟩ = some (.int .i64 c.2) ∧ W.cell? ⟨g6, 0, none⟩ = some (.int .i64 d.1) ∧ W.cell? ⟨g6, 1, none⟩ = some (.int .i64 d.2)) (first | exact Hold.rd4 (by assumption) | exact Hold.rd4 (Hold.drew (by assumption))) (first
    | (go_at_call 70; (with_reducible refine (HX.out _).mono ?_); rintro e w' ⟨rfl, hB⟩; have HS' := Hold.on (by first | assumption | exact Hold.drew (by assumption)) hB)
    | (go_at_call 70; (with_reducible refine (HY.out _).mono ?_); rintro e w' ⟨rfl, hB⟩; have HS' := Hold.on (by first | assumption | exact Hold.drew (by assumption)) hB))
  go_wp2
  go_ret
  rw [HG.out]
  exact ⟨rfl, HS'.1⟩
end Go.Proofs.Ytkkdjbmdfpmkpaa
