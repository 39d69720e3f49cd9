/- The law GeoParts: a point of a stretch cuts it in two. -/
import Derived.Test.YtmoppjkfdhfmoaaGeoAns
namespace Go.Proofs.Ytmoppjkfdhfmoaa
open Go.RowKit
section
variable {w W : World}
theorem Hold.five0 (w : World) (a b c d p : Int × Int) : Hold w [(w.heap.size + 1 + 1 + 1 + 1, #[.int .i64 p.1, .int .i64 p.2], 23), (w.heap.size + 1 + 1 + 1, #[.int .i64 d.1, .int .i64 d.2], 23), (w.heap.size + 1 + 1, #[.int .i64 c.1, .int .i64 c.2], 23), (w.heap.size + 1, #[.int .i64 b.1, .int .i64 b.2], 23), (w.heap.size, #[.int .i64 a.1, .int .i64 a.2], 23)] (((((w.alloc (Obj.cells #[.int .i64 a.1, .int .i64 a.2] 23)).alloc (Obj.cells #[.int .i64 b.1, .int .i64 b.2] 23)).alloc (Obj.cells #[.int .i64 c.1, .int .i64 c.2] 23)).alloc (Obj.cells #[.int .i64 d.1, .int .i64 d.2] 23)).alloc (Obj.cells #[.int .i64 p.1, .int .i64 p.2] 23)) :=
  (Hold.four0 w a b c d).new' _ _ (by simp only [World.size_alloc])
theorem Hold.rd5 {g0 g1 g2 g3 g4 : Nat} {x0 y0 x1 y1 x2 y2 x3 y3 x4 y4 : Value} {t0 t1 t2 t3 t4 : TypeId} (h : Hold w [(g4, #[x4, y4], t4), (g3, #[x3, y3], t3), (g2, #[x2, y2], t2), (g1, #[x1, y1], t1), (g0, #[x0, y0], t0)] W) : W.cell? ⟨g0, 0, none⟩ = some x0 ∧ W.cell? ⟨g0, 1, none⟩ = some y0 ∧ W.cell? ⟨g1, 0, none⟩ = some x1 ∧ W.cell? ⟨g1, 1, none⟩ = some y1 ∧ W.cell? ⟨g2, 0, none⟩ = some x2 ∧ W.cell? ⟨g2, 1, none⟩ = some y2 ∧ W.cell? ⟨g3, 0, none⟩ = some x3 ∧ W.cell? ⟨g3, 1, none⟩ = some y3 ∧ W.cell? ⟨g4, 0, none⟩ = some x4 ∧ W.cell? ⟨g4, 1, none⟩ = some y4 :=
  ⟨(h.tail.rd4).1, (h.tail.rd4).2.1, (h.tail.rd4).2.2.1, (h.tail.rd4).2.2.2.1, (h.tail.rd4).2.2.2.2.1, (h.tail.rd4).2.2.2.2.2.1, (h.tail.rd4).2.2.2.2.2.2.1, (h.tail.rd4).2.2.2.2.2.2.2, (h.pt (.head _)).1, (h.pt (.head _)).2⟩
theorem gdL_five {a b c d p : Int × Int} : gdL [a, b, c, d, p] = true ↔ Gd a ∧ Gd b ∧ Gd c ∧ Gd d ∧ Gd p := by
  simp only [gdL, List.all_cons, List.all_nil, Bool.and_true, Bool.and_eq_true, gd_iff]
/-- What the four answers have to do with one another. -/
theorem parts_key {a b p : Int × Int} (c d : Int × Int) (h : onB a b p = true) : meetN a p p b = 1 ∧
    ((meetN a b c d ≤ 0 ∧ meetN a p c d ≤ 0 ∧ meetN p b c d ≤ 0) ∨ (0 < meetN a b c d ∧ (0 < meetN a p c d ∨ (meetN a p c d ≤ 0 ∧ 0 < meetN p b c d)) ∧ (meetN a b c d = 3 ∨ (¬ meetN a b c d = 3 ∧ meetN a p c d < 3 ∧ meetN p b c d < 3)))) := by
  simp only [meetN_eq]
  obtain ⟨k1, k2, k3⟩ := meet_parts (c := c) (d := d) (onB_iff.1 h)
  refine ⟨k2, ?_⟩
  by_cases h0 : 0 < meet a b c d
  · right
    have := k1.1 h0
    refine ⟨h0, by omega, by omega⟩
  · left
    have h1 : ¬ 0 < meet a p c d := fun e => h0 (k1.2 (.inl e))
    have h2 : ¬ 0 < meet p b c d := fun e => h0 (k1.2 (.inr e))
    omega
end
end Go.Proofs.Ytmoppjkfdhfmoaa
namespace Go.Proofs.Ytmoppjkfdhfmoaa.geoParts
open Go.RowKit
set_option maxRecDepth 100000 in
set_option maxHeartbeats 2000000 in
theorem law_walk (a b c d p : Int × Int) (w : World) :
    Calls Try.prog 7 #[.agg #[.int .i64 a.1, .int .i64 a.2], .agg #[.int .i64 b.1, .int .i64 b.2], .agg #[.int .i64 c.1, .int .i64 c.2], .agg #[.int .i64 d.1, .int .i64 d.2], .agg #[.int .i64 p.1, .int .i64 p.2]] w fun e w' => e = .returned (.bool true) ∧ Below w.heap.size w w' := by
  cases hg : gdL [a, b, c, d, p]
  · have HQ := Hold.five0 w a b c d p
    go_enter Try.func7, Try.ntmps7
    go_upto_region 1 with (fail)
    generalize (World.alloc _ _) = W1 at HQ ⊢
    generalize w.heap.size + 1 + 1 + 1 + 1 = g4 at HQ ⊢
    generalize w.heap.size + 1 + 1 + 1 = g3 at HQ ⊢
    generalize w.heap.size + 1 + 1 = g2 at HQ ⊢
    generalize w.heap.size + 1 = g1 at HQ ⊢
    obtain ⟨f0, f1, f2, f3, f4, f5, f6, f7, f8, f9⟩ := HQ.rd5
    go_wp2_with fail
    go_at_call 12
    refine (answers_any _).mono ?_
    rintro e w' ⟨rfl, hB⟩
    replace HQ := HQ.on hB
    clear hB f0 f1 f2 f3 f4 f5 f6 f7 f8 f9
    obtain ⟨f0, f1, f2, f3, f4, f5, f6, f7, f8, f9⟩ := HQ.rd5
    go_wp2_with fail
    go_at_call 11
    refine (ref_good_five a b c d p _ _ _).mono ?_
    rintro e w' ⟨rfl, hB⟩
    replace HQ := (HQ.alloc _).on (hB.mono (by simp only [World.size_alloc]; omega))
    clear hB f0 f1 f2 f3 f4 f5 f6 f7 f8 f9
    obtain ⟨f0, f1, f2, f3, f4, f5, f6, f7, f8, f9⟩ := HQ.rd5
    go_wp2_with fail
    go_at_call 12
    refine (answers_any _).mono ?_
    rintro e w' ⟨rfl, hB⟩
    replace HQ := HQ.on hB
    clear hB f0 f1 f2 f3 f4 f5 f6 f7 f8 f9
    go_wp2
    go_ret
    exact ⟨rfl, HQ.1⟩
  · obtain ⟨ga, gb, gc, gd, gp⟩ := gdL_five.1 hg
    have hon := fun W => ref_on a b p ga gb gp W
    have h1 := fun W => meet_good a b c d (gdL_four.2 ⟨ga, gb, gc, gd⟩) W
    have h2 := fun W => meet_good a p c d (gdL_four.2 ⟨ga, gp, gc, gd⟩) W
    have h3 := fun W => meet_good p b c d (gdL_four.2 ⟨gp, gb, gc, gd⟩) W
    have h4 := fun W => meet_good a p p b (gdL_four.2 ⟨ga, gp, gp, gb⟩) W
    have HON := Lib.hid hon
    have HKEY := Lib.hid (parts_key (a := a) (b := b) (p := p) c d)
    clear hon ga gb gc gd gp
    cases ho : onB a b p
    · clear h1 h2 h3 h4
      have HQ := Hold.five0 w a b c d p
      go_enter Try.func7, Try.ntmps7
      go_upto_region 1 with (fail)
      generalize (World.alloc _ _) = W1 at HQ ⊢
      generalize w.heap.size + 1 + 1 + 1 + 1 = g4 at HQ ⊢
      generalize w.heap.size + 1 + 1 + 1 = g3 at HQ ⊢
      generalize w.heap.size + 1 + 1 = g2 at HQ ⊢
      generalize w.heap.size + 1 = g1 at HQ ⊢
      obtain ⟨f0, f1, f2, f3, f4, f5, f6, f7, f8, f9⟩ := HQ.rd5
      go_wp2_with fail
      go_at_call 12
      refine (answers_any _).mono ?_
      rintro e w' ⟨rfl, hB⟩
      replace HQ := HQ.on hB
      clear hB f0 f1 f2 f3 f4 f5 f6 f7 f8 f9
      obtain ⟨f0, f1, f2, f3, f4, f5, f6, f7, f8, f9⟩ := HQ.rd5
      go_wp2_with fail
      go_at_call 11
      refine (ref_good_five a b c d p _ _ _).mono ?_
      rintro e w' ⟨rfl, hB⟩
      replace HQ := (HQ.alloc _).on (hB.mono (by simp only [World.size_alloc]; omega))
      clear hB f0 f1 f2 f3 f4 f5 f6 f7 f8 f9
      obtain ⟨f0, f1, f2, f3, f4, f5, f6, f7, f8, f9⟩ := HQ.rd5
      go_wp2_with fail
      go_at_call 19
      refine (HON.out _).mono ?_
      rintro e w' ⟨rfl, hB⟩
      replace HQ := HQ.on hB
      clear hB f0 f1 f2 f3 f4 f5 f6 f7 f8 f9
      obtain ⟨f0, f1, f2, f3, f4, f5, f6, f7, f8, f9⟩ := HQ.rd5
      go_wp2_with fail
      go_at_call 12
      refine (answers_any _).mono ?_
      rintro e w' ⟨rfl, hB⟩
      replace HQ := HQ.on hB
      clear hB f0 f1 f2 f3 f4 f5 f6 f7 f8 f9
      go_wp2
      go_ret
      exact ⟨rfl, HQ.1⟩
    · have hk := HKEY.out ho
      rw [hk.1] at h4
      replace hk := hk.2
      generalize meetN a b c d = M at h1 hk
      generalize meetN a p c d = O at h2 hk
      generalize meetN p b c d = T at h3 hk
      have H1 := Lib.hid h1
      have H2 := Lib.hid h2
      have H3 := Lib.hid h3
      have H4 := Lib.hid h4
      have HK := Lib.hid hk
      clear h1 h2 h3 h4 hk HKEY
      have HQ := Hold.five0 w a b c d p
      go_enter Try.func7, Try.ntmps7
      go_upto_region 1 with (fail)
      generalize (World.alloc _ _) = W1 at HQ ⊢
      generalize w.heap.size + 1 + 1 + 1 + 1 = g4 at HQ ⊢
      generalize w.heap.size + 1 + 1 + 1 = g3 at HQ ⊢
      generalize w.heap.size + 1 + 1 = g2 at HQ ⊢
      generalize w.heap.size + 1 = g1 at HQ ⊢
      obtain ⟨f0, f1, f2, f3, f4, f5, f6, f7, f8, f9⟩ := HQ.rd5
      go_wp2_with fail
      go_at_call 12
      refine (answers_any _).mono ?_
      rintro e w' ⟨rfl, hB⟩
      replace HQ := HQ.on hB
      clear hB f0 f1 f2 f3 f4 f5 f6 f7 f8 f9
      obtain ⟨f0, f1, f2, f3, f4, f5, f6, f7, f8, f9⟩ := HQ.rd5
      go_wp2_with fail
      go_at_call 11
      refine (ref_good_five a b c d p _ _ _).mono ?_
      rintro e w' ⟨rfl, hB⟩
      replace HQ := (HQ.alloc _).on (hB.mono (by simp only [World.size_alloc]; omega))
      clear hB f0 f1 f2 f3 f4 f5 f6 f7 f8 f9
      obtain ⟨f0, f1, f2, f3, f4, f5, f6, f7, f8, f9⟩ := HQ.rd5
      go_wp2_with fail
      go_at_call 19
      refine (HON.out _).mono ?_
      rintro e w' ⟨rfl, hB⟩
      replace HQ := HQ.on hB
      clear hB f0 f1 f2 f3 f4 f5 f6 f7 f8 f9
      obtain ⟨f0, f1, f2, f3, f4, f5, f6, f7, f8, f9⟩ := HQ.rd5
      go_wp2_with fail
      go_at_call 21
      refine (H1.out _).mono ?_
      rintro e w' ⟨rfl, hB⟩
      replace HQ := HQ.on hB
      clear hB f0 f1 f2 f3 f4 f5 f6 f7 f8 f9
      obtain ⟨f0, f1, f2, f3, f4, f5, f6, f7, f8, f9⟩ := HQ.rd5
      go_wp2_with fail
      go_at_call 21
      refine (H2.out _).mono ?_
      rintro e w' ⟨rfl, hB⟩
      replace HQ := HQ.on hB
      clear hB f0 f1 f2 f3 f4 f5 f6 f7 f8 f9
      obtain ⟨f0, f1, f2, f3, f4, f5, f6, f7, f8, f9⟩ := HQ.rd5
      go_wp2_with fail
      go_at_call 21
      refine (H3.out _).mono ?_
      rintro e w' ⟨rfl, hB⟩
      replace HQ := HQ.on hB
      clear hB f0 f1 f2 f3 f4 f5 f6 f7 f8 f9
      obtain ⟨f0, f1, f2, f3, f4, f5, f6, f7, f8, f9⟩ := HQ.rd5
      go_wp2_with fail
      go_at_call 21
      refine (H4.out _).mono ?_
      rintro e w' ⟨rfl, hB⟩
      replace HQ := HQ.on hB
      clear hB f0 f1 f2 f3 f4 f5 f6 f7 f8 f9
      have HB := Lib.hid HQ.1
      have hk := HK.out
      clear HQ HK H1 H2 H3 H4 HON ho hg
      go_upto_region 7 with (fail)
      rcases hk with ⟨k1, k2, k3⟩ | ⟨k1, k2 | ⟨k2, k3⟩, rfl | ⟨k4, k5, k6⟩⟩
      · have j1 : ¬ 0 < M := by omega
        have j2 : ¬ 0 < O := by omega
        have j3 : ¬ 0 < T := by omega
        have j4 : ¬ M = 3 := by omega
        have j5 : O < 3 := by omega
        have j6 : T < 3 := by omega
        have e4 : (M == 3) = false := by simpa using j4
        go_wp2
        go_ret
        exact ⟨rfl, HB.out⟩
      · go_wp2
        go_ret
        exact ⟨rfl, HB.out⟩
      · have e4 : (M == 3) = false := by simpa using k4
        go_wp2
        go_ret
        exact ⟨rfl, HB.out⟩
      · have j2 : ¬ 0 < O := by omega
        go_wp2
        go_ret
        exact ⟨rfl, HB.out⟩
      · have j2 : ¬ 0 < O := by omega
        have e4 : (M == 3) = false := by simpa using k4
        go_wp2
        go_ret
        exact ⟨rfl, HB.out⟩
end Go.Proofs.Ytmoppjkfdhfmoaa.geoParts
