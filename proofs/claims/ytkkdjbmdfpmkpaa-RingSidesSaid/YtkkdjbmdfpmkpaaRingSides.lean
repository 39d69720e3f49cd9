/- The law RingSides: where a point is. -/
import Derived.Test.YtkkdjbmdfpmkpaaRingAns
import Derived.Test.YtkkdjbmdfpmkpaaJord
namespace Go.Proofs.Ytkkdjbmdfpmkpaa.ringSides
open Go.RowKit

theorem sdE_bad {ps : List (Int × Int)} {p : Int × Int} (h : chE ps ≠ 0) : sdE ps p = chE ps ∧ sdV ps p = 0 := by
  have e : sdE ps p = chE ps := by unfold sdE; rw [if_pos h]
  exact ⟨e, by unfold sdV; rw [e, if_neg h]⟩
theorem sdE_far {ps : List (Int × Int)} {p : Int × Int} (h : chE ps = 0) (hg : gdL [p] = false) : sdE ps p = 3 ∧ sdV ps p = 0 := by
  have hg' : gd p = false := by simpa [gdL] using hg
  have e : sdE ps p = 3 := by unfold sdE; rw [if_neg (by omega), hg']; rfl
  exact ⟨e, by unfold sdV; rw [e, if_neg (by omega)]⟩
theorem sdE_ok {ps : List (Int × Int)} {p : Int × Int} (h : chE ps = 0) (hg : gdL [p] = true) : sdE ps p = 0 ∧ sdV ps p = side ps p := by
  have hg' : gd p = true := by simpa [gdL] using hg
  have e : sdE ps p = 0 := by unfold sdE; rw [if_neg (by omega), hg']; rfl
  exact ⟨e, by unfold sdV; rw [if_pos e, sideW_side (chE_zero.1 h).2]⟩

set_option maxRecDepth 100000 in
set_option maxHeartbeats 2000000 in
theorem law_walk (ps : List (Int × Int)) (A : Option Addr) (cap : Nat) (p : Int × Int) (hb : ps.length * 16 ≤ 140737488355328) (hnil : NilOk A cap) (w : World) (hr : Pts w w.heap.size A ps) :
    Calls Try.prog 4 #[.slice A ps.length cap, .agg #[.int .i64 p.1, .int .i64 p.2]] w fun e w' => e = .returned (.bool true) ∧ Below w.heap.size w w' := by
  have HN := Lib.hid (show ps.length ≤ maxLen by unfold maxLen; omega)
  have HR := Lib.hid hr
  have hown := fun L W (h : Hold w L W) => own_any ps A cap W (hr.on h.1) hnil hb
  have HOWN := Lib.hid hown
  have HSD := Lib.hid (fun A1 c1 W h => Side_any ps A1 c1 p HN.out W h)
  clear hr hnil hb hown
  have HQ := (Hold.refl w).new #[.int .i64 p.1, .int .i64 p.2] 35
  go_enter Try.func4, Try.ntmps4
  go_upto_region 1 with (fail)
  generalize (World.alloc w _) = W1 at HQ ⊢
  obtain ⟨g3, hg3⟩ : ∃ g, w.heap.size = g := ⟨_, rfl⟩
  rw [hg3] at HQ ⊢
  have HG3 := Lib.hid hg3
  clear hg3
  go_cut [5, 6] (fun s5 s6 wx => s5 = .int .i64 (sdV ps p) ∧ s6 = .int .i64 (sdE ps p) ∧ Hold w [(g3, #[.int .i64 p.1, .int .i64 p.2], 35)] wx)
  case first =>
    go_region_held3 (fun W => W.cell? ⟨g3, 0, none⟩ = some (.int .i64 p.1) ∧ W.cell? ⟨g3, 1, none⟩ = some (.int .i64 p.2)) (first | exact Hold.pt (by assumption) (.head _) | exact Hold.pt (Hold.drew (by assumption)) (.head _)) (first
      | (go_at_call 10; (with_reducible refine (HOWN.out [(g3, #[.int .i64 p.1, .int .i64 p.2], 35)] _ (by first | assumption | exact Hold.drew (by assumption))).mono ?_); rintro e w' ⟨v, rfl, HV⟩; obtain ⟨A1, c1, rfl, hp1⟩ := HV.pts; have HS' := Hold.on (by first | assumption | exact Hold.drew (by assumption)) HV.1; have HP1 := Lib.hid hp1; clear hp1 HV)
      | (go_at_call 15; (with_reducible refine (HSD.out _ _ _ HP1.out).mono ?_); rintro e w' ⟨rfl, hB⟩; have HS' := Hold.on (by assumption) hB))
    go_wp2_with fail
    go_meet
    exact ⟨rfl, rfl, HS'⟩
  case rest =>
    obtain ⟨rfl, rfl, HT⟩ := hcut
    clear HQ HOWN HSD
    go_wp2_with fail
    go_at_call 14
    refine (ref_check ps A cap HN.out _ (HR.out.on HT.1)).mono ?_
    rintro e w2 ⟨rfl, hB⟩
    replace HT := HT.on hB
    clear hB
    go_wp2_with fail
    go_at_call 12
    refine (ring_answers _).mono ?_
    rintro e w3 ⟨rfl, hB⟩
    replace HT := HT.on hB
    clear hB
    by_cases h0 : chE ps = 0
    · obtain ⟨f0, f1⟩ := HT.pt (.head _)
      rw [h0]
      have hb := arE_zero.1 (chE_zero.1 h0).1
      go_wp2_with fail
      go_at_call 16
      refine (ref_good_one p _ _ _).mono ?_
      rintro e w4 ⟨rfl, hB⟩
      replace HT := (HT.alloc _).on (hB.mono (by simp only [World.size_alloc]; omega))
      clear hB f0 f1
      cases hg : gdL [p]
      · obtain ⟨e1, e2⟩ := sdE_far h0 hg
        rw [e1, e2]
        have HK := Lib.hid HT.1
        clear hb h0 e1 e2 HT
        go_wp2
        go_ret
        exact ⟨rfl, HK.out⟩
      · obtain ⟨e1, e2⟩ := sdE_ok h0 hg
        rw [e1, e2]
        obtain ⟨f0, f1⟩ := HT.pt (.head _)
        have hpg : Gd p := gd_iff.1 (by simpa [gdL] using hg)
        have HSR := Lib.hid (fun W h => ref_side ps A cap p HN.out hb.2 hpg W h)
        clear hb h0 e1 e2 hpg
        go_wp2_with fail
        go_at_call 17
        refine (HSR.out _ (HR.out.on HT.1)).mono ?_
        rintro e w5 ⟨rfl, hB⟩
        have HK := Lib.hid (HT.on hB).1
        clear hB HT f0 f1 HSR
        go_wp2
        go_ret
        exact ⟨rfl, HK.out⟩
    · obtain ⟨e1, e2⟩ := sdE_bad (p := p) h0
      rw [e1, e2]
      have e0 : (chE ps != 0) = true := by simpa using h0
      have HK := Lib.hid HT.1
      clear h0 e1 e2 HT
      go_wp2
      go_ret
      exact ⟨rfl, HK.out⟩
end Go.Proofs.Ytkkdjbmdfpmkpaa.ringSides
