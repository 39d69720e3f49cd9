/- The law RingNorms: where a ring begins, and how it is turned. -/
import Derived.Test.YtkkdjbmdfpmkpaaRingAns
import Derived.Test.YtkkdjbmdfpmkpaaNorm
namespace Go.Proofs.Ytkkdjbmdfpmkpaa.ringNorms
open Go.RowKit

set_option maxRecDepth 100000 in
set_option maxHeartbeats 4000000 in
theorem law_walk (ps : List (Int × Int)) (A : Option Addr) (cap : Nat) (hb : ps.length * 16 ≤ 140737488355328) (hnil : NilOk A cap) (w : World) (hr : Pts w w.heap.size A ps) :
    Calls Try.prog 5 #[.slice A ps.length cap] w fun e w' => e = .returned (.bool true) ∧ Below w.heap.size w w' := by
  have HN := Lib.hid (show ps.length ≤ maxLen by unfold maxLen; omega)
  have HR := Lib.hid hr
  have hown := fun W (h : Below w.heap.size w W) => own_any ps A cap W (hr.on h) hnil hb
  have HOWN := Lib.hid hown
  have HBB := Lib.hid hb
  clear hr hnil hown
  go_enter Try.func5, Try.ntmps5
  go_wp2_with fail
  go_at_call 10
  refine (HOWN.out _ (Below.refl _ _)).mono ?_
  rintro e w1 ⟨v, rfl, HV⟩
  obtain ⟨A1, c1, rfl, hp, -, hfull⟩ := HV.full
  have HB := Lib.hid HV.1
  have HP := Lib.hid hp
  clear HV hp
  go_wp2_with fail
  go_at_call 18
  refine (Norm_any ps A1 c1 HN.out hfull _ HP.out).mono ?_
  rintro e w2 ⟨v, rfl, HV⟩
  obtain ⟨A2, c2, rfl, hp2⟩ := HV.pts
  have HB2 := Lib.hid (HB.out.trans (HV.1.mono HB.out.size))
  have HP2 := Lib.hid hp2
  clear HV hp2 HB HP
  go_wp2_with fail
  go_at_call 10
  refine (HOWN.out _ HB2.out).mono ?_
  rintro e w3 ⟨v, rfl, HV⟩
  obtain ⟨A3, c3, rfl, hp3, hn3⟩ := HV.nilOk
  have HB3 := Lib.hid (HB2.out.trans (HV.1.mono HB2.out.size))
  have HP3 := Lib.hid hp3
  have HP23 := Lib.hid (HP2.out.on HV.1)
  clear HV hp3 HB2 HP2
  go_wp2_with fail
  go_at_call 19
  refine (Turned_any ps A3 c3 HBB.out hn3 _ HP3.out).mono ?_
  rintro e w4 ⟨v, rfl, HV⟩
  obtain ⟨A4, c4, rfl, hp4⟩ := HV.pts
  have HB4 := Lib.hid (HB3.out.trans (HV.1.mono HB3.out.size))
  have HP4 := Lib.hid hp4
  have HP24 := Lib.hid (HP23.out.on HV.1)
  clear HV hp4 HB3 HP3 HP23
  rw [List.length_reverse]
  go_wp2_with fail
  go_at_call 12
  refine (ring_answers _).mono ?_
  rintro e w5 ⟨rfl, hB⟩
  have HB5 := Lib.hid (HB4.out.trans (hB.mono HB4.out.size))
  have HP45 := Lib.hid (HP4.out.on hB)
  have HP25 := Lib.hid (HP24.out.on hB)
  clear hB HB4 HP4 HP24
  have H0 : Hold w5 [] w5 := Hold.refl w5
  go_wp2_with fail
  go_loopg [6] ps.length (fun g i wr => ∃ k : Nat, k ≤ ps.length ∧ g = ps.length - k ∧ i = .int .i64 k ∧ Hold w5 [] wr)
  case atStart => exact ⟨0, Nat.zero_le _, rfl, rfl, H0⟩
  case round =>
    clear H0
    obtain ⟨k, hk, hgk, rfl, HW⟩ := hrel
    have HGK := Lib.hid hgk
    clear hgk
    by_cases hlt : k < ps.length
    · have hlr : k < ps.reverse.length := by rw [List.length_reverse]; exact hlt
      obtain ⟨ad, rfl, -, d0, d1⟩ := HP45.out.at HW.1 hlr
      obtain ⟨ae, rfl, -, d2, d3⟩ := (HR.out.on HB5.out).at HW.1 (show ps.length - 1 - k < ps.length by omega)
      rw [List.getElem_reverse] at d0 d1
      obtain ⟨j, hj⟩ : ∃ j, ps.length - 1 - k = j := ⟨_, rfl⟩
      simp only [hj] at d0 d1 d2 d3
      have z1 : IntKind.i64.wrap ((ps.length : Int) - 1) = (ps.length : Int) - 1 := by have := HBB.out; exact wrap_in (by omega) (by omega)
      have z2 : (ps.length : Int) - 1 - (k : Int) = (j : Int) := by omega
      have z3 : IntKind.i64.wrap (j : Int) = (j : Int) := by have := HBB.out; exact wrap_in (by omega) (by omega)
      have b0 : (0 : Int) ≤ (k : Int) := by omega
      have b1 : (k : Int) < (ps.length : Int) := by omega
      have b2 : (0 : Int) ≤ (j : Int) := by omega
      have b3 : (j : Int) < (ps.length : Int) := by omega
      generalize ps[j] = a at *
      have b9 : ps.length ≤ 8796093022208 := by have := HBB.out; omega
      clear hj hb hlr
      go_upto_region 8 with (fail)
      go_quiet (fail)
      have HK := Lib.hid (HW.drewN nq)
      clear HW z1 z2 z3
      go_wp2
      go_roundg (ps.length - (k + 1))
      case measure => have := HGK.out; omega
      case rel => exact ⟨k + 1, by omega, rfl, by go_num, HK.out⟩
    · obtain rfl : k = ps.length := by omega
      have HB6 := Lib.hid (HB5.out.trans (HW.1.mono HB5.out.size))
      have HP26 := Lib.hid (HP25.out.on HW.1)
      clear HB5 HP25 HW
      go_wp2_with fail
      go_at_call 14
      refine (ref_check ps A cap HN.out _ (HR.out.on HB6.out)).mono ?_
      rintro e w7 ⟨rfl, hB⟩
      have HB7 := Lib.hid (HB6.out.trans (hB.mono HB6.out.size))
      have HP27 := Lib.hid (HP26.out.on hB)
      clear hB HB6 HP26
      by_cases h0 : chE ps = 0
      · have hm : nmL ps = rotL ps (leastI ps ps.length) := by unfold nmL; rw [if_pos h0]
        have hlen : ps.length ≤ 128 := (arE_zero.1 (chE_zero.1 h0).1).1
        have HLN := Lib.hid (show ps.length ≤ 1000000000 by omega)
        have hp := HP27.out
        rw [hm] at hp ⊢
        rw [h0]
        have HPN := Lib.hid hp
        clear hm hlen h0 hp HP27
        go_wp2_with fail
        go_at_call 21
        refine (ref_least ps A cap HLN.out _ (HR.out.on HB7.out)).mono ?_
        rintro e w8 ⟨v, rfl, HV⟩
        obtain ⟨A8, c8, rfl, hp8⟩ := HV.pts
        have HB8 := Lib.hid (HB7.out.trans (HV.1.mono HB7.out.size))
        have HP8 := Lib.hid hp8
        have HPN8 := Lib.hid (HPN.out.on HV.1)
        clear HV hp8 HB7 HPN
        go_wp2_with fail
        go_at_call 20
        refine (ref_same _ _ _ _ _ _ (by rw [rotL_length]; exact HN.out) _ HPN8.out HP8.out).mono ?_
        rintro e w9 ⟨rfl, hB⟩
        have HK := Lib.hid (HB8.out.trans (hB.mono HB8.out.size))
        clear hB
        rw [decide_eq_true rfl]
        go_wp2
        go_ret
        exact ⟨rfl, HK.out⟩
      · have hm : nmL ps = [] := by unfold nmL; rw [if_neg h0]
        have e0 : (chE ps != 0) = true := by simpa using h0
        rw [hm]
        clear hm h0
        go_wp2
        go_ret
        exact ⟨rfl, HB7.out⟩
end Go.Proofs.Ytkkdjbmdfpmkpaa.ringNorms
