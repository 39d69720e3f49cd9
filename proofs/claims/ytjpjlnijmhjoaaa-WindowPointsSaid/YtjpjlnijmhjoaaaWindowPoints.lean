/- The law WindowPoints: a window that is a point has it alone, and meets a polygon just if that is within it, or on its border. -/
import Derived.Test.YtjpjlnijmhjoaaaWinAns
namespace Go.Proofs.Ytjpjlnijmhjoaaa.windowPoints
open Go.RowKit

theorem keep1 {w W : World} {p q : Int × Int} {g3 g4 g7 : Nat} (h : Hold w [(g7, #[.int .i64 p.1, .int .i64 p.2, .int .i64 p.1, .int .i64 p.2], 25), (g4, #[.int .i64 q.1, .int .i64 q.2], 23), (g3, #[.int .i64 p.1, .int .i64 p.2], 23)] W) : W.cell? ⟨g7, 0, none⟩ = some (.int .i64 p.1) ∧ W.cell? ⟨g7, 1, none⟩ = some (.int .i64 p.2) ∧ W.cell? ⟨g7, 2, none⟩ = some (.int .i64 p.1) ∧ W.cell? ⟨g7, 3, none⟩ = some (.int .i64 p.2) := h.win (.head _)
theorem rd {w W : World} {p q : Int × Int} {g3 g4 g7 : Nat} (h : Hold w [(g7, #[.int .i64 p.1, .int .i64 p.2, .int .i64 p.1, .int .i64 p.2], 25), (g4, #[.int .i64 q.1, .int .i64 q.2], 23), (g3, #[.int .i64 p.1, .int .i64 p.2], 23)] W) : (W.cell? ⟨g7, 0, none⟩ = some (.int .i64 p.1) ∧ W.cell? ⟨g7, 1, none⟩ = some (.int .i64 p.2) ∧ W.cell? ⟨g7, 2, none⟩ = some (.int .i64 p.1) ∧ W.cell? ⟨g7, 3, none⟩ = some (.int .i64 p.2)) ∧ W.cell? ⟨g3, 0, none⟩ = some (.int .i64 p.1) ∧ W.cell? ⟨g3, 1, none⟩ = some (.int .i64 p.2) ∧ W.cell? ⟨g4, 0, none⟩ = some (.int .i64 q.1) ∧ W.cell? ⟨g4, 1, none⟩ = some (.int .i64 q.2) :=
  ⟨h.win (.head _), (h.pt (.tail _ (.tail _ (.head _)))).1, (h.pt (.tail _ (.tail _ (.head _)))).2, (h.pt (.tail _ (.head _))).1, (h.pt (.tail _ (.head _))).2⟩
theorem point_ok {p q : Int × Int} (h : gdL [p, q] = true) : wnE p p = 0 ∧ frE p p [q] = 0 := by
  obtain ⟨h1, h2⟩ := gdL_two.1 h
  have e : wnE p p = 0 := wnE_zero.2 ⟨gdL_two.2 ⟨h1, h1⟩, by omega, by omega⟩
  exact ⟨e, frE_good e (by simp [gdL, gd_iff.2 h2])⟩
theorem metV_point {p : Int × Int} {ps : List (Int × Int)} : metV p p ps = decide (0 ≤ side ps p) := by
  rw [Bool.eq_iff_iff, metV_iff, decide_eq_true_eq]; exact met_point
theorem haV_point {p q : Int × Int} (h : gdL [p, q] = true) : (p.1 = q.1 → p.2 = q.2 → haV p p q = true) ∧ (¬ (p.1 = q.1 ∧ p.2 = q.2) → haV p p q = false) := by
  unfold haV
  rw [if_pos (point_ok h).2]
  refine ⟨fun h1 h2 => hasB_iff.2 ⟨by omega, by omega, by omega, by omega⟩, fun h1 => ?_⟩
  cases hh : hasB p p q
  · rfl
  · obtain ⟨a1, a2, a3, a4⟩ := hasB_iff.1 hh
    exact absurd ⟨by omega, by omega⟩ h1
set_option maxRecDepth 100000 in
set_option maxHeartbeats 4000000 in
theorem walk_far (p q : Int × Int) (ps : List (Int × Int)) (A : Option Addr) (cap : Nat) (hg : gdL [p, q] = false) (hb : ps.length * 16 ≤ 140737488355328) (hnil : NilOk A cap) (w : World) (hr : Pts w w.heap.size A ps) :
    Calls Try.prog 8 #[.agg #[.int .i64 p.1, .int .i64 p.2], .agg #[.int .i64 q.1, .int .i64 q.2], .slice A ps.length cap] w fun e w' => e = .returned (.bool true) ∧ Below w.heap.size w w' := by
  have HN := Lib.hid (ps_len hb)
  have hown := fun K W (h : Hold w K W) => own_any ps A cap W (hr.on h.1) hnil hb
  have HOWN := Lib.hid hown
  have HGO := Lib.hid (fun W t => ref_good_two p q 2 W t)
  rw [hg] at HGO
  clear hr hnil hb hown hg HOWN
  have HQ := (((Hold.refl w).new #[.int .i64 p.1, .int .i64 p.2] 23).new' #[.int .i64 q.1, .int .i64 q.2] 23 (n := w.heap.size + 1) (by simp)).new' #[.int .i64 p.1, .int .i64 p.2, .int .i64 p.1, .int .i64 p.2] 25 (n := w.heap.size + 1 + 1) (by simp)
  go_enter Try.func8, Try.ntmps8
  go_upto_region 2 with (fail)
  generalize (World.alloc _ _) = W1 at HQ ⊢
  generalize w.heap.size + 1 + 1 = g7 at HQ ⊢
  generalize w.heap.size + 1 = g4 at HQ ⊢
  obtain ⟨g3, hg3⟩ : ∃ g, w.heap.size = g := ⟨_, rfl⟩
  rw [hg3] at HQ ⊢
  have HG3 := Lib.hid hg3
  clear hg3
  obtain ⟨⟨c0, c1, c2, c3⟩, d0, d1, d2, d3⟩ := rd HQ
  go_wp2_with (first
    | (go_at_call 11; go_must ((with_reducible refine (win_answers _).mono ?_); rintro e w' ⟨rfl, hB⟩; replace HQ := HQ.on hB; clear hB c0 c1 c2 c3 d0 d1 d2 d3; obtain ⟨⟨c0, c1, c2, c3⟩, d0, d1, d2, d3⟩ := rd HQ))
    | (go_at_call 13; go_must ((with_reducible refine (HGO.out _ _).mono ?_); rintro e w' ⟨rfl, hB⟩; replace HQ := (HQ.alloc _).on (hB.mono (by simp only [World.size_alloc]; omega)); clear hB c0 c1 c2 c3 d0 d1 d2 d3; obtain ⟨⟨c0, c1, c2, c3⟩, d0, d1, d2, d3⟩ := rd HQ)))
  have HB := Lib.hid HQ.1
  clear HQ c0 c1 c2 c3 d0 d1 d2 d3
  go_ret
  exact ⟨rfl, HB.out⟩
set_option maxRecDepth 100000 in
set_option maxHeartbeats 4000000 in
theorem walk_ill (p q : Int × Int) (ps : List (Int × Int)) (A : Option Addr) (cap : Nat) (hg : gdL [p, q] = true) (hc : chE ps ≠ 0) (hb : ps.length * 16 ≤ 140737488355328) (hnil : NilOk A cap) (w : World) (hr : Pts w w.heap.size A ps) :
    Calls Try.prog 8 #[.agg #[.int .i64 p.1, .int .i64 p.2], .agg #[.int .i64 q.1, .int .i64 q.2], .slice A ps.length cap] w fun e w' => e = .returned (.bool true) ∧ Below w.heap.size w w' := by
  have HN := Lib.hid (ps_len hb)
  have hown := fun K W (h : Hold w K W) => own_any ps A cap W (hr.on h.1) hnil hb
  have HOWN := Lib.hid hown
  have HGO := Lib.hid (fun W t => ref_good_two p q 2 W t)
  have HCH := Lib.hid (fun K W (h : Hold w K W) => ref_check ps A cap HN.out W (hr.on h.1))
  rw [hg] at HGO
  have en : (chE ps != 0) = true := by simpa using hc
  clear hr hnil hb hown hg HOWN hc
  generalize chE ps = x at *
  have HQ := (((Hold.refl w).new #[.int .i64 p.1, .int .i64 p.2] 23).new' #[.int .i64 q.1, .int .i64 q.2] 23 (n := w.heap.size + 1) (by simp)).new' #[.int .i64 p.1, .int .i64 p.2, .int .i64 p.1, .int .i64 p.2] 25 (n := w.heap.size + 1 + 1) (by simp)
  go_enter Try.func8, Try.ntmps8
  go_upto_region 2 with (fail)
  generalize (World.alloc _ _) = W1 at HQ ⊢
  generalize w.heap.size + 1 + 1 = g7 at HQ ⊢
  generalize w.heap.size + 1 = g4 at HQ ⊢
  obtain ⟨g3, hg3⟩ : ∃ g, w.heap.size = g := ⟨_, rfl⟩
  rw [hg3] at HQ ⊢
  have HG3 := Lib.hid hg3
  clear hg3
  obtain ⟨⟨c0, c1, c2, c3⟩, d0, d1, d2, d3⟩ := rd HQ
  go_wp2_with (first
    | (go_at_call 11; go_must ((with_reducible refine (win_answers _).mono ?_); rintro e w' ⟨rfl, hB⟩; replace HQ := HQ.on hB; clear hB c0 c1 c2 c3 d0 d1 d2 d3; obtain ⟨⟨c0, c1, c2, c3⟩, d0, d1, d2, d3⟩ := rd HQ))
    | (go_at_call 13; go_must ((with_reducible refine (HGO.out _ _).mono ?_); rintro e w' ⟨rfl, hB⟩; replace HQ := (HQ.alloc _).on (hB.mono (by simp only [World.size_alloc]; omega)); clear hB c0 c1 c2 c3 d0 d1 d2 d3; obtain ⟨⟨c0, c1, c2, c3⟩, d0, d1, d2, d3⟩ := rd HQ))
    | (go_at_call 17; go_must ((with_reducible refine (HCH.out _ _ HQ).mono ?_); rintro e w' ⟨rfl, hB⟩; replace HQ := HQ.on hB; clear hB c0 c1 c2 c3 d0 d1 d2 d3; obtain ⟨⟨c0, c1, c2, c3⟩, d0, d1, d2, d3⟩ := rd HQ)))
  have HB := Lib.hid HQ.1
  clear HQ c0 c1 c2 c3 d0 d1 d2 d3
  go_ret
  exact ⟨rfl, HB.out⟩
set_option maxRecDepth 100000 in
set_option maxHeartbeats 4000000 in
theorem walk_good (p q : Int × Int) (ps : List (Int × Int)) (A : Option Addr) (cap : Nat) (hg : gdL [p, q] = true) (hc : chE ps = 0) (hb : ps.length * 16 ≤ 140737488355328) (hnil : NilOk A cap) (w : World) (hr : Pts w w.heap.size A ps) :
    Calls Try.prog 8 #[.agg #[.int .i64 p.1, .int .i64 p.2], .agg #[.int .i64 q.1, .int .i64 q.2], .slice A ps.length cap] w fun e w' => e = .returned (.bool true) ∧ Below w.heap.size w w' := by
  have HN := Lib.hid (ps_len hb)
  have hown := fun K W (h : Hold w K W) => own_any ps A cap W (hr.on h.1) hnil hb
  have HOWN := Lib.hid hown
  have HGO := Lib.hid (fun W t => ref_good_two p q 2 W t)
  have HCH := Lib.hid (fun K W (h : Hold w K W) => ref_check ps A cap HN.out W (hr.on h.1))
  rw [hg] at HGO
  rw [hc] at HCH
  have HHA := Lib.hid (fun W => Has_any p p q W)
  rw [(point_ok hg).2] at HHA
  have HHV := Lib.hid (haV_point hg)
  have HME := Lib.hid (fun A1 c1 W h => Meets_any p p ps A1 c1 HN.out W h)
  have hm := meE_good (point_ok hg).1 hc
  rw [hm.1, hm.2, metV_point] at HME
  have HSD := Lib.hid (fun K W (h : Hold w K W) => ref_side ps A cap p HN.out (arE_zero.1 (chE_zero.1 hc).1).2 (gdL_two.1 hg).1 W (hr.on h.1))
  clear hr hnil hb hown hg hc hm
  generalize haV p p q = hv at *
  generalize side ps p = s at *
  have HQ := (((Hold.refl w).new #[.int .i64 p.1, .int .i64 p.2] 23).new' #[.int .i64 q.1, .int .i64 q.2] 23 (n := w.heap.size + 1) (by simp)).new' #[.int .i64 p.1, .int .i64 p.2, .int .i64 p.1, .int .i64 p.2] 25 (n := w.heap.size + 1 + 1) (by simp)
  go_enter Try.func8, Try.ntmps8
  go_upto_region 2 with (fail)
  generalize (World.alloc _ _) = W1 at HQ ⊢
  generalize w.heap.size + 1 + 1 = g7 at HQ ⊢
  generalize w.heap.size + 1 = g4 at HQ ⊢
  obtain ⟨g3, hg3⟩ : ∃ g, w.heap.size = g := ⟨_, rfl⟩
  rw [hg3] at HQ ⊢
  have HG3 := Lib.hid hg3
  clear hg3
  obtain ⟨⟨c0, c1, c2, c3⟩, d0, d1, d2, d3⟩ := rd HQ
  go_upto_region 5 with (first
    | (go_at_call 11; go_must ((with_reducible refine (win_answers _).mono ?_); rintro e w' ⟨rfl, hB⟩; replace HQ := HQ.on hB; clear hB c0 c1 c2 c3 d0 d1 d2 d3; obtain ⟨⟨c0, c1, c2, c3⟩, d0, d1, d2, d3⟩ := rd HQ))
    | (go_at_call 13; go_must ((with_reducible refine (HGO.out _ _).mono ?_); rintro e w' ⟨rfl, hB⟩; replace HQ := (HQ.alloc _).on (hB.mono (by simp only [World.size_alloc]; omega)); clear hB c0 c1 c2 c3 d0 d1 d2 d3; obtain ⟨⟨c0, c1, c2, c3⟩, d0, d1, d2, d3⟩ := rd HQ))
    | (go_at_call 17; go_must ((with_reducible refine (HCH.out _ _ HQ).mono ?_); rintro e w' ⟨rfl, hB⟩; replace HQ := HQ.on hB; clear hB c0 c1 c2 c3 d0 d1 d2 d3; obtain ⟨⟨c0, c1, c2, c3⟩, d0, d1, d2, d3⟩ := rd HQ))
    | (go_at_call 10; go_must ((with_reducible refine (HHA.out _).mono ?_); rintro e w' ⟨rfl, hB⟩; replace HQ := HQ.on hB; clear hB c0 c1 c2 c3 d0 d1 d2 d3; obtain ⟨⟨c0, c1, c2, c3⟩, d0, d1, d2, d3⟩ := rd HQ)))
  clear HGO HCH HHA
  go_upto_region 5 with (fail)
  go_cut [10, 11] (fun sv se wx => sv = .bool (decide (0 ≤ s)) ∧ se = .int .i64 0 ∧ Hold w [(g7, #[.int .i64 p.1, .int .i64 p.2, .int .i64 p.1, .int .i64 p.2], 25), (g4, #[.int .i64 q.1, .int .i64 q.2], 23), (g3, #[.int .i64 p.1, .int .i64 p.2], 23)] wx)
  case first =>
    clear HSD HHV
    go_region_held3 (fun W => W.cell? ⟨g7, 0, none⟩ = some (.int .i64 p.1) ∧ W.cell? ⟨g7, 1, none⟩ = some (.int .i64 p.2) ∧ W.cell? ⟨g7, 2, none⟩ = some (.int .i64 p.1) ∧ W.cell? ⟨g7, 3, none⟩ = some (.int .i64 p.2)) (first | exact keep1 (by assumption) | exact keep1 (Hold.drew (by assumption))) (first
      | (go_at_call 19; (with_reducible refine (HOWN.out [(g7, #[.int .i64 p.1, .int .i64 p.2, .int .i64 p.1, .int .i64 p.2], 25), (g4, #[.int .i64 q.1, .int .i64 q.2], 23), (g3, #[.int .i64 p.1, .int .i64 p.2], 23)] _ (by first | assumption | exact Hold.drew (by assumption))).mono ?_); rintro e w' ⟨v, rfl, HV⟩; obtain ⟨A1, c1, rfl, hp1⟩ := HV.pts; have HS' := Hold.on (by first | assumption | exact Hold.drew (by assumption)) HV.1; have HP1 := Lib.hid hp1; clear hp1 HV)
      | (go_at_call 18; (with_reducible refine (HME.out _ _ _ HP1.out).mono ?_); rintro e w' ⟨rfl, hB⟩; have HS' := Hold.on (by assumption) hB))
    go_wp2_with fail
    go_meet
    exact ⟨rfl, rfl, HS'⟩
  case rest =>
    obtain ⟨rfl, rfl, HT⟩ := hcut
    clear HQ c0 c1 c2 c3 d0 d1 d2 d3 HOWN HME
    have HQ := HT
    clear HT
    obtain ⟨⟨c0, c1, c2, c3⟩, d0, d1, d2, d3⟩ := rd HQ
    have hw : (p.1 = q.1 ∧ p.2 = q.2) ∨ (p.1 = q.1 ∧ ¬ p.2 = q.2) ∨ ¬ p.1 = q.1 := by omega
    rcases hw with ⟨h1, h2⟩ | ⟨h1, h2⟩ | h1
    · obtain rfl := HHV.out.1 h1 h2
      have e1 : (p.1 == q.1) = true := by simpa using h1
      have e2 : (p.2 == q.2) = true := by simpa using h2
      clear h1 h2 HHV
      go_wp2_with (go_at_call 21; go_must ((with_reducible refine (HSD.out _ _ HQ).mono ?_); rintro e w' ⟨rfl, hB⟩; replace HQ := HQ.on hB; clear hB c0 c1 c2 c3 d0 d1 d2 d3; obtain ⟨⟨c0, c1, c2, c3⟩, d0, d1, d2, d3⟩ := rd HQ))
      have HB := Lib.hid HQ.1
      clear HQ c0 c1 c2 c3 d0 d1 d2 d3
      go_ret
      exact ⟨rfl, HB.out⟩
    · obtain rfl := HHV.out.2 (by omega)
      have e1 : (p.1 == q.1) = true := by simpa using h1
      have e2 : (p.2 == q.2) = false := by simpa using h2
      clear h1 h2 HHV
      go_wp2_with (go_at_call 21; go_must ((with_reducible refine (HSD.out _ _ HQ).mono ?_); rintro e w' ⟨rfl, hB⟩; replace HQ := HQ.on hB; clear hB c0 c1 c2 c3 d0 d1 d2 d3; obtain ⟨⟨c0, c1, c2, c3⟩, d0, d1, d2, d3⟩ := rd HQ))
      have HB := Lib.hid HQ.1
      clear HQ c0 c1 c2 c3 d0 d1 d2 d3
      go_ret
      exact ⟨rfl, HB.out⟩
    · obtain rfl := HHV.out.2 (by omega)
      have e1 : (p.1 == q.1) = false := by simpa using h1
      clear h1 HHV
      go_wp2_with (go_at_call 21; go_must ((with_reducible refine (HSD.out _ _ HQ).mono ?_); rintro e w' ⟨rfl, hB⟩; replace HQ := HQ.on hB; clear hB c0 c1 c2 c3 d0 d1 d2 d3; obtain ⟨⟨c0, c1, c2, c3⟩, d0, d1, d2, d3⟩ := rd HQ))
      have HB := Lib.hid HQ.1
      clear HQ c0 c1 c2 c3 d0 d1 d2 d3
      go_ret
      exact ⟨rfl, HB.out⟩
theorem law_walk (p q : Int × Int) (ps : List (Int × Int)) (A : Option Addr) (cap : Nat) (hb : ps.length * 16 ≤ 140737488355328) (hnil : NilOk A cap) (w : World) (hr : Pts w w.heap.size A ps) :
    Calls Try.prog 8 #[.agg #[.int .i64 p.1, .int .i64 p.2], .agg #[.int .i64 q.1, .int .i64 q.2], .slice A ps.length cap] w fun e w' => e = .returned (.bool true) ∧ Below w.heap.size w w' := by
  cases hg : gdL [p, q]
  · exact walk_far p q ps A cap hg hb hnil w hr
  · by_cases hc : chE ps = 0
    · exact walk_good p q ps A cap hg hc hb hnil w hr
    · exact walk_ill p q ps A cap hg hc hb hnil w hr
end Go.Proofs.Ytjpjlnijmhjoaaa.windowPoints
