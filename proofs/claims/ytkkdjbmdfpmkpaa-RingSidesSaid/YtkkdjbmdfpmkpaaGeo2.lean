/- The contracts of the program's calls on points: which side of a way, which points a stretch has, whether all are within the limits. -/
import Derived.Test.YtkkdjbmdfpmkpaaGeo1
import Derived.Deep.LoopGhost
namespace Go.Proofs.Ytkkdjbmdfpmkpaa
open Go.RowKit

set_option maxHeartbeats 400000 in
theorem turn_any (a b c : Int × Int) (ha : Gd a) (hb : Gd b) (hc : Gd c) (w : World) :
    Calls Try.prog 70 #[.agg #[.int .i64 a.1, .int .i64 a.2], .agg #[.int .i64 b.1, .int .i64 b.2], .agg #[.int .i64 c.1, .int .i64 c.2]] w fun e w' => e = .returned (.int .i64 (sgn (crs a b c))) ∧ Below w.heap.size w w' := by
  have hx := fun W => cross_any a b c ha hb hc W
  have HX := Lib.hid hx
  have HC := Lib.hid (cmp_sgn (crs_inR ha hb hc))
  clear hx ha hb hc
  go_enter Try.func70, Try.ntmps70
  go_wp2_with fail
  go_at_call 49
  refine (HX.out _).mono ?_
  rintro e w1 ⟨rfl, hB⟩
  go_wp2_with fail
  go_at_call 32
  refine (sign_any _ _ _).mono ?_
  rintro e w2 ⟨rfl, hB2⟩
  go_wp2_with fail
  go_ret
  rw [HC.out]
  refine ⟨rfl, Below.trans (Below.trans (by go_grown) (hB.mono (by simp only [World.size_alloc]; omega))) (hB2.mono ?_)⟩
  have := hB.size
  simp only [World.size_alloc] at this
  omega

/-- Whether a stretch has a point. -/
def onB (a b p : Int × Int) : Bool := (sgn (crs a b p) == 0) && wth p.1 (min a.1 b.1) (max a.1 b.1) && wth p.2 (min a.2 b.2) (max a.2 b.2)
theorem wth_btw {a b n : Int} : wth n (min a b) (max a b) = true ↔ btw a b n := by
  unfold wth btw
  simp only [Bool.and_eq_true, decide_eq_true_eq]
  omega
theorem onB_iff {a b p : Int × Int} : onB a b p = true ↔ OnS a b p := by
  unfold onB OnS
  rw [Bool.and_eq_true, Bool.and_eq_true, wth_btw, wth_btw, beq_iff_eq, sgn_zero, and_assoc]

section
variable {w W W' : World}
/-- Points in blocks of the call's own: as a function's text lays its parameters. -/
theorem Hold.two0 (w : World) (a b : Int × Int) : Hold w [(w.heap.size + 1, #[.int .i64 b.1, .int .i64 b.2], 35), (w.heap.size, #[.int .i64 a.1, .int .i64 a.2], 35)] ((w.alloc (Obj.cells #[.int .i64 a.1, .int .i64 a.2] 35)).alloc (Obj.cells #[.int .i64 b.1, .int .i64 b.2] 35)) :=
  ((Hold.refl w).new _ _).new' _ _ (by simp only [World.size_alloc])
theorem Hold.three0 (w : World) (a b c : Int × Int) : Hold w [(w.heap.size + 1 + 1, #[.int .i64 c.1, .int .i64 c.2], 35), (w.heap.size + 1, #[.int .i64 b.1, .int .i64 b.2], 35), (w.heap.size, #[.int .i64 a.1, .int .i64 a.2], 35)] (((w.alloc (Obj.cells #[.int .i64 a.1, .int .i64 a.2] 35)).alloc (Obj.cells #[.int .i64 b.1, .int .i64 b.2] 35)).alloc (Obj.cells #[.int .i64 c.1, .int .i64 c.2] 35)) :=
  (Hold.two0 w a b).new' _ _ (by simp only [World.size_alloc])
theorem Hold.four0 (w : World) (a b c d : Int × Int) : Hold w [(w.heap.size + 1 + 1 + 1, #[.int .i64 d.1, .int .i64 d.2], 35), (w.heap.size + 1 + 1, #[.int .i64 c.1, .int .i64 c.2], 35), (w.heap.size + 1, #[.int .i64 b.1, .int .i64 b.2], 35), (w.heap.size, #[.int .i64 a.1, .int .i64 a.2], 35)] ((((w.alloc (Obj.cells #[.int .i64 a.1, .int .i64 a.2] 35)).alloc (Obj.cells #[.int .i64 b.1, .int .i64 b.2] 35)).alloc (Obj.cells #[.int .i64 c.1, .int .i64 c.2] 35)).alloc (Obj.cells #[.int .i64 d.1, .int .i64 d.2] 35)) :=
  (Hold.three0 w a b c).new' _ _ (by simp only [World.size_alloc])
theorem Hold.rd2 {g0 g1 : Nat} {x0 y0 x1 y1 : Value} {t0 t1 : TypeId} (h : Hold w [(g1, #[x1, y1], t1), (g0, #[x0, y0], t0)] W) : W.cell? ⟨g0, 0, none⟩ = some x0 ∧ W.cell? ⟨g0, 1, none⟩ = some y0 ∧ W.cell? ⟨g1, 0, none⟩ = some x1 ∧ W.cell? ⟨g1, 1, none⟩ = some y1 :=
  ⟨(h.pt (.tail _ (.head _))).1, (h.pt (.tail _ (.head _))).2, (h.pt (.head _)).1, (h.pt (.head _)).2⟩
theorem Hold.rd3 {g0 g1 g2 : Nat} {x0 y0 x1 y1 x2 y2 : Value} {t0 t1 t2 : TypeId} (h : Hold w [(g2, #[x2, y2], t2), (g1, #[x1, y1], t1), (g0, #[x0, y0], t0)] W) : W.cell? ⟨g0, 0, none⟩ = some x0 ∧ W.cell? ⟨g0, 1, none⟩ = some y0 ∧ W.cell? ⟨g1, 0, none⟩ = some x1 ∧ W.cell? ⟨g1, 1, none⟩ = some y1 ∧ W.cell? ⟨g2, 0, none⟩ = some x2 ∧ W.cell? ⟨g2, 1, none⟩ = some y2 :=
  ⟨(h.tail.rd2).1, (h.tail.rd2).2.1, (h.tail.rd2).2.2.1, (h.tail.rd2).2.2.2, (h.pt (.head _)).1, (h.pt (.head _)).2⟩
theorem Hold.rd4 {g0 g1 g2 g3 : Nat} {x0 y0 x1 y1 x2 y2 x3 y3 : Value} {t0 t1 t2 t3 : TypeId} (h : Hold w [(g3, #[x3, y3], t3), (g2, #[x2, y2], t2), (g1, #[x1, y1], t1), (g0, #[x0, y0], t0)] W) : W.cell? ⟨g0, 0, none⟩ = some x0 ∧ W.cell? ⟨g0, 1, none⟩ = some y0 ∧ W.cell? ⟨g1, 0, none⟩ = some x1 ∧ W.cell? ⟨g1, 1, none⟩ = some y1 ∧ W.cell? ⟨g2, 0, none⟩ = some x2 ∧ W.cell? ⟨g2, 1, none⟩ = some y2 ∧ W.cell? ⟨g3, 0, none⟩ = some x3 ∧ W.cell? ⟨g3, 1, none⟩ = some y3 :=
  ⟨(h.tail.rd3).1, (h.tail.rd3).2.1, (h.tail.rd3).2.2.1, (h.tail.rd3).2.2.2.1, (h.tail.rd3).2.2.2.2.1, (h.tail.rd3).2.2.2.2.2, (h.pt (.head _)).1, (h.pt (.head _)).2⟩
end

set_option maxHeartbeats 800000 in
theorem on_any (a b p : Int × Int) (ha : Gd a) (hb : Gd b) (hp : Gd p) (w : World) :
    Calls Try.prog 59 #[.agg #[.int .i64 a.1, .int .i64 a.2], .agg #[.int .i64 b.1, .int .i64 b.2], .agg #[.int .i64 p.1, .int .i64 p.2]] w fun e w' => e = .returned (.bool (onB a b p)) ∧ Below w.heap.size w w' := by
  have hx := fun W => turn_any a b p ha hb hp W
  have HX := Lib.hid hx
  have m1 : (if b.1 < a.1 then b.1 else a.1) = min a.1 b.1 := by split <;> omega
  have m2 : (if a.1 < b.1 then b.1 else a.1) = max a.1 b.1 := by split <;> omega
  have m3 : (if b.2 < a.2 then b.2 else a.2) = min a.2 b.2 := by split <;> omega
  have m4 : (if a.2 < b.2 then b.2 else a.2) = max a.2 b.2 := by split <;> omega
  clear hx ha hb hp
  cases h1 : (sgn (crs a b p) == 0)
  · have HG : Hid (onB a b p = false) := by unfold Hid onB; rw [h1]; rfl
    go_enter Try.func59, Try.ntmps59
    go_wp2_with fail
    go_at_call 70
    refine (HX.out _).mono ?_
    rintro e w1 ⟨rfl, hB⟩
    go_wp2
    go_ret
    rw [HG.out]
    exact ⟨rfl, Below.trans (by go_grown) (hB.mono (by simp only [World.size_alloc]; omega))⟩
  · cases h2 : wth p.1 (min a.1 b.1) (max a.1 b.1)
    · have HG : Hid (onB a b p = false) := by unfold Hid onB; rw [h2, Bool.and_false]; rfl
      go_enter Try.func59, Try.ntmps59
      go_wp2_with fail
      go_at_call 70
      refine (HX.out _).mono ?_
      rintro e w1 ⟨rfl, hB⟩
      obtain ⟨f1, f2, f3, f4, f5, f6⟩ := ((Hold.three0 w a b p).on hB).rd3
      go_wp2_with fail
      go_at_call 47
      refine (within_any _ _ _ _).mono ?_
      rintro e w2 ⟨rfl, rfl⟩
      go_wp2
      go_ret
      rw [HG.out]
      exact ⟨rfl, Below.trans (by go_grown) (hB.mono (by simp only [World.size_alloc]; omega))⟩
    · have HG : Hid (onB a b p = wth p.2 (min a.2 b.2) (max a.2 b.2)) := by unfold Hid onB; rw [h1, h2]; rfl
      go_enter Try.func59, Try.ntmps59
      go_wp2_with fail
      go_at_call 70
      refine (HX.out _).mono ?_
      rintro e w1 ⟨rfl, hB⟩
      obtain ⟨f1, f2, f3, f4, f5, f6⟩ := ((Hold.three0 w a b p).on hB).rd3
      go_wp2_with fail
      go_at_call 47
      refine (within_any _ _ _ _).mono ?_
      rintro e w2 ⟨rfl, rfl⟩
      go_wp2_with fail
      go_at_call 47
      refine (within_any _ _ _ _).mono ?_
      rintro e w2 ⟨rfl, rfl⟩
      go_wp2
      go_ret
      rw [HG.out]
      exact ⟨rfl, Below.trans (by go_grown) (hB.mono (by simp only [World.size_alloc]; omega))⟩
end Go.Proofs.Ytkkdjbmdfpmkpaa
