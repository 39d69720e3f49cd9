/- The law WindowMeets: which polygons have a point in a window. -/
import Derived.Test.YtjpjlnijmhjoaaaWinAns
namespace Go.Proofs.Ytjpjlnijmhjoaaa.windowMeets
open Go.RowKit

theorem keep1 {w W : World} {L H : Int × Int} {g0 : Nat} (h : Hold w [(g0, #[.int .i64 L.1, .int .i64 L.2, .int .i64 H.1, .int .i64 H.2], 25)] W) : W.cell? ⟨g0, 0, none⟩ = some (.int .i64 L.1) ∧ W.cell? ⟨g0, 1, none⟩ = some (.int .i64 L.2) ∧ W.cell? ⟨g0, 2, none⟩ = some (.int .i64 H.1) ∧ W.cell? ⟨g0, 3, none⟩ = some (.int .i64 H.2) := h.win (.head _)
set_option maxRecDepth 100000 in
set_option maxHeartbeats 4000000 in
theorem walk_bad (L H : Int × Int) (ps : List (Int × Int)) (A : Option Addr) (cap : Nat) (he : wnE L H ≠ 0) (hb : ps.length * 16 ≤ 140737488355328) (hnil : NilOk A cap) (w : World) (hr : Pts w w.heap.size A ps) :
    Calls Try.prog 5 #[.agg #[.int .i64 L.1, .int .i64 L.2, .int .i64 H.1, .int .i64 H.2], .slice A ps.length cap] w fun e w' => e = .returned (.bool true) ∧ Below w.heap.size w w' := by
  have HN := Lib.hid (ps_len hb)
  have HR := Lib.hid hr
  have hown := fun K W (h : Hold w K W) => own_any ps A cap W (hr.on h.1) hnil hb
  have HOWN := Lib.hid hown
  have HOK := Lib.hid (fun W => ref_windowOK L H W)
  have HME := Lib.hid (fun A1 c1 W h => Meets_any L H ps A1 c1 HN.out W h)
  rw [(meE_bad he).1, (meE_bad he).2] at HME
  have e0 : (wnE L H == 0) = false := by simpa using he
  clear he
  generalize wnE L H = x at *
  clear hr hnil hb hown
  have HQ := (Hold.refl w).new #[.int .i64 L.1, .int .i64 L.2, .int .i64 H.1, .int .i64 H.2] 25
  go_enter Try.func5, Try.ntmps5
  go_upto_region 1 with (fail)
  generalize (World.alloc _ _) = W1 at HQ ⊢
  obtain ⟨g0, hg0⟩ : ∃ g, w.heap.size = g := ⟨_, rfl⟩
  rw [hg0] at HQ ⊢
  have HG0 := Lib.hid hg0
  clear hg0
  obtain ⟨c0, c1, c2, c3⟩ := keep1 HQ
  go_wp2_with fail
  go_at_call 9
  refine (HOK.out _).mono ?_
  rintro e w1 ⟨rfl, hB⟩
  replace HQ := HQ.on hB
  clear hB c0 c1 c2 c3 HOK
  obtain ⟨c0, c1, c2, c3⟩ := keep1 HQ
  go_upto_region 4 with (fail)
  go_cut [6, 7] (fun sv se wx => sv = .bool false ∧ se = .int .i64 x ∧ Hold w [(g0, #[.int .i64 L.1, .int .i64 L.2, .int .i64 H.1, .int .i64 H.2], 25)] wx)
  case first =>
    skip
    go_region_held3 (fun W => W.cell? ⟨g0, 0, none⟩ = some (.int .i64 L.1) ∧ W.cell? ⟨g0, 1, none⟩ = some (.int .i64 L.2) ∧ W.cell? ⟨g0, 2, none⟩ = some (.int .i64 H.1) ∧ W.cell? ⟨g0, 3, none⟩ = some (.int .i64 H.2)) (first | exact keep1 (by assumption) | exact keep1 (Hold.drew (by assumption))) (first
      | (go_at_call 19; (with_reducible refine (HOWN.out [(g0, #[.int .i64 L.1, .int .i64 L.2, .int .i64 H.1, .int .i64 H.2], 25)] _ (by first | assumption | exact Hold.drew (by assumption))).mono ?_); rintro e w' ⟨v, rfl, HV⟩; obtain ⟨A1, c1, rfl, hp1⟩ := HV.pts; have HS' := Hold.on (by first | assumption | exact Hold.drew (by assumption)) HV.1; have HP1 := Lib.hid hp1; clear hp1 HV)
      | (go_at_call 18; (with_reducible refine (HME.out _ _ _ HP1.out).mono ?_); rintro e w' ⟨rfl, hB⟩; have HS' := Hold.on (by assumption) hB))
    go_wp2_with fail
    go_meet
    exact ⟨rfl, rfl, HS'⟩
  case rest =>
    obtain ⟨rfl, rfl, HT⟩ := hcut
    clear HQ c0 c1 c2 c3 HOWN HME
    obtain ⟨c0, c1, c2, c3⟩ := keep1 HT
    go_wp2_with fail
    go_at_call 11
    refine (win_answers _).mono ?_
    rintro e w3 ⟨rfl, hB⟩
    replace HT := HT.on hB
    clear hB c0 c1 c2 c3
    have HB := Lib.hid HT.1
    clear HT
    go_wp2
    go_ret
    exact ⟨rfl, HB.out⟩
set_option maxRecDepth 100000 in
set_option maxHeartbeats 4000000 in
theorem walk_ill (L H : Int × Int) (ps : List (Int × Int)) (A : Option Addr) (cap : Nat) (he : wnE L H = 0) (hc : chE ps ≠ 0) (hb : ps.length * 16 ≤ 140737488355328) (hnil : NilOk A cap) (w : World) (hr : Pts w w.heap.size A ps) :
    Calls Try.prog 5 #[.agg #[.int .i64 L.1, .int .i64 L.2, .int .i64 H.1, .int .i64 H.2], .slice A ps.length cap] w fun e w' => e = .returned (.bool true) ∧ Below w.heap.size w w' := by
  have HN := Lib.hid (ps_len hb)
  have HR := Lib.hid hr
  have hown := fun K W (h : Hold w K W) => own_any ps A cap W (hr.on h.1) hnil hb
  have HOWN := Lib.hid hown
  have HOK := Lib.hid (fun W => ref_windowOK L H W)
  have HME := Lib.hid (fun A1 c1 W h => Meets_any L H ps A1 c1 HN.out W h)
  have HCH := Lib.hid (fun K W (h : Hold w K W) => ref_check ps A cap HN.out W (hr.on h.1))
  rw [(meE_ill he hc).1, (meE_ill he hc).2] at HME
  rw [he] at HOK
  have e0 : (chE ps == 0) = false := by simpa using hc
  clear he hc
  generalize chE ps = x at *
  clear hr hnil hb hown
  have HQ := (Hold.refl w).new #[.int .i64 L.1, .int .i64 L.2, .int .i64 H.1, .int .i64 H.2] 25
  go_enter Try.func5, Try.ntmps5
  go_upto_region 1 with (fail)
  generalize (World.alloc _ _) = W1 at HQ ⊢
  obtain ⟨g0, hg0⟩ : ∃ g, w.heap.size = g := ⟨_, rfl⟩
  rw [hg0] at HQ ⊢
  have HG0 := Lib.hid hg0
  clear hg0
  obtain ⟨c0, c1, c2, c3⟩ := keep1 HQ
  go_wp2_with fail
  go_at_call 9
  refine (HOK.out _).mono ?_
  rintro e w1 ⟨rfl, hB⟩
  replace HQ := HQ.on hB
  clear hB c0 c1 c2 c3 HOK
  go_wp2_with fail
  go_at_call 17
  refine (HCH.out _ _ HQ).mono ?_
  rintro e w2 ⟨rfl, hB⟩
  replace HQ := HQ.on hB
  clear hB HCH
  obtain ⟨c0, c1, c2, c3⟩ := keep1 HQ
  go_upto_region 4 with (fail)
  go_cut [6, 7] (fun sv se wx => sv = .bool false ∧ se = .int .i64 x ∧ Hold w [(g0, #[.int .i64 L.1, .int .i64 L.2, .int .i64 H.1, .int .i64 H.2], 25)] wx)
  case first =>
    skip
    go_region_held3 (fun W => W.cell? ⟨g0, 0, none⟩ = some (.int .i64 L.1) ∧ W.cell? ⟨g0, 1, none⟩ = some (.int .i64 L.2) ∧ W.cell? ⟨g0, 2, none⟩ = some (.int .i64 H.1) ∧ W.cell? ⟨g0, 3, none⟩ = some (.int .i64 H.2)) (first | exact keep1 (by assumption) | exact keep1 (Hold.drew (by assumption))) (first
      | (go_at_call 19; (with_reducible refine (HOWN.out [(g0, #[.int .i64 L.1, .int .i64 L.2, .int .i64 H.1, .int .i64 H.2], 25)] _ (by first | assumption | exact Hold.drew (by assumption))).mono ?_); rintro e w' ⟨v, rfl, HV⟩; obtain ⟨A1, c1, rfl, hp1⟩ := HV.pts; have HS' := Hold.on (by first | assumption | exact Hold.drew (by assumption)) HV.1; have HP1 := Lib.hid hp1; clear hp1 HV)
      | (go_at_call 18; (with_reducible refine (HME.out _ _ _ HP1.out).mono ?_); rintro e w' ⟨rfl, hB⟩; have HS' := Hold.on (by assumption) hB))
    go_wp2_with fail
    go_meet
    exact ⟨rfl, rfl, HS'⟩
  case rest =>
    obtain ⟨rfl, rfl, HT⟩ := hcut
    clear HQ c0 c1 c2 c3 HOWN HME
    obtain ⟨c0, c1, c2, c3⟩ := keep1 HT
    go_wp2_with fail
    go_at_call 11
    refine (win_answers _).mono ?_
    rintro e w3 ⟨rfl, hB⟩
    replace HT := HT.on hB
    clear hB c0 c1 c2 c3
    have HB := Lib.hid HT.1
    clear HT
    go_wp2
    go_ret
    exact ⟨rfl, HB.out⟩
set_option maxRecDepth 100000 in
set_option maxHeartbeats 4000000 in
theorem walk_good (L H : Int × Int) (ps : List (Int × Int)) (A : Option Addr) (cap : Nat) (he : wnE L H = 0) (hc : chE ps = 0) (hb : ps.length * 16 ≤ 140737488355328) (hnil : NilOk A cap) (w : World) (hr : Pts w w.heap.size A ps) :
    Calls Try.prog 5 #[.agg #[.int .i64 L.1, .int .i64 L.2, .int .i64 H.1, .int .i64 H.2], .slice A ps.length cap] w fun e w' => e = .returned (.bool true) ∧ Below w.heap.size w w' := by
  have HN := Lib.hid (ps_len hb)
  have HR := Lib.hid hr
  have hown := fun K W (h : Hold w K W) => own_any ps A cap W (hr.on h.1) hnil hb
  have HOWN := Lib.hid hown
  have HOK := Lib.hid (fun W => ref_windowOK L H W)
  have HME := Lib.hid (fun A1 c1 W h => Meets_any L H ps A1 c1 HN.out W h)
  have HCH := Lib.hid (fun K W (h : Hold w K W) => ref_check ps A cap HN.out W (hr.on h.1))
  have HRM := Lib.hid (fun K W (h : Hold w K W) => ref_meets L H ps A cap he hc HN.out W (hr.on h.1))
  rw [(meE_good he hc).1, (meE_good he hc).2] at HME
  rw [he] at HOK
  rw [hc] at HCH
  clear he hc
  generalize metV L H ps = m at *
  clear hr hnil hb hown
  have HQ := (Hold.refl w).new #[.int .i64 L.1, .int .i64 L.2, .int .i64 H.1, .int .i64 H.2] 25
  go_enter Try.func5, Try.ntmps5
  go_upto_region 1 with (fail)
  generalize (World.alloc _ _) = W1 at HQ ⊢
  obtain ⟨g0, hg0⟩ : ∃ g, w.heap.size = g := ⟨_, rfl⟩
  rw [hg0] at HQ ⊢
  have HG0 := Lib.hid hg0
  clear hg0
  obtain ⟨c0, c1, c2, c3⟩ := keep1 HQ
  go_wp2_with fail
  go_at_call 9
  refine (HOK.out _).mono ?_
  rintro e w1 ⟨rfl, hB⟩
  replace HQ := HQ.on hB
  clear hB c0 c1 c2 c3 HOK
  go_wp2_with fail
  go_at_call 17
  refine (HCH.out _ _ HQ).mono ?_
  rintro e w2 ⟨rfl, hB⟩
  replace HQ := HQ.on hB
  clear hB HCH
  obtain ⟨c0, c1, c2, c3⟩ := keep1 HQ
  go_upto_region 4 with (fail)
  go_cut [6, 7] (fun sv se wx => sv = .bool m ∧ se = .int .i64 0 ∧ Hold w [(g0, #[.int .i64 L.1, .int .i64 L.2, .int .i64 H.1, .int .i64 H.2], 25)] wx)
  case first =>
    clear HRM
    go_region_held3 (fun W => W.cell? ⟨g0, 0, none⟩ = some (.int .i64 L.1) ∧ W.cell? ⟨g0, 1, none⟩ = some (.int .i64 L.2) ∧ W.cell? ⟨g0, 2, none⟩ = some (.int .i64 H.1) ∧ W.cell? ⟨g0, 3, none⟩ = some (.int .i64 H.2)) (first | exact keep1 (by assumption) | exact keep1 (Hold.drew (by assumption))) (first
      | (go_at_call 19; (with_reducible refine (HOWN.out [(g0, #[.int .i64 L.1, .int .i64 L.2, .int .i64 H.1, .int .i64 H.2], 25)] _ (by first | assumption | exact Hold.drew (by assumption))).mono ?_); rintro e w' ⟨v, rfl, HV⟩; obtain ⟨A1, c1, rfl, hp1⟩ := HV.pts; have HS' := Hold.on (by first | assumption | exact Hold.drew (by assumption)) HV.1; have HP1 := Lib.hid hp1; clear hp1 HV)
      | (go_at_call 18; (with_reducible refine (HME.out _ _ _ HP1.out).mono ?_); rintro e w' ⟨rfl, hB⟩; have HS' := Hold.on (by assumption) hB))
    go_wp2_with fail
    go_meet
    exact ⟨rfl, rfl, HS'⟩
  case rest =>
    obtain ⟨rfl, rfl, HT⟩ := hcut
    clear HQ c0 c1 c2 c3 HOWN HME
    obtain ⟨c0, c1, c2, c3⟩ := keep1 HT
    go_wp2_with fail
    go_at_call 11
    refine (win_answers _).mono ?_
    rintro e w3 ⟨rfl, hB⟩
    replace HT := HT.on hB
    clear hB c0 c1 c2 c3
    obtain ⟨c0, c1, c2, c3⟩ := keep1 HT
    go_wp2_with fail
    go_at_call 20
    refine (HRM.out _ _ HT).mono ?_
    rintro e w4 ⟨rfl, hB⟩
    replace HT := HT.on hB
    clear hB c0 c1 c2 c3 HRM
    have HB := Lib.hid HT.1
    clear HT
    go_wp2
    go_ret
    exact ⟨rfl, HB.out⟩
theorem law_walk (L H : Int × Int) (ps : List (Int × Int)) (A : Option Addr) (cap : Nat) (hb : ps.length * 16 ≤ 140737488355328) (hnil : NilOk A cap) (w : World) (hr : Pts w w.heap.size A ps) :
    Calls Try.prog 5 #[.agg #[.int .i64 L.1, .int .i64 L.2, .int .i64 H.1, .int .i64 H.2], .slice A ps.length cap] w fun e w' => e = .returned (.bool true) ∧ Below w.heap.size w w' := by
  by_cases he : wnE L H = 0
  · by_cases hc : chE ps = 0
    · exact walk_good L H ps A cap he hc hb hnil w hr
    · exact walk_ill L H ps A cap he hc hb hnil w hr
  · exact walk_bad L H ps A cap he hb hnil w hr
end Go.Proofs.Ytjpjlnijmhjoaaa.windowMeets
