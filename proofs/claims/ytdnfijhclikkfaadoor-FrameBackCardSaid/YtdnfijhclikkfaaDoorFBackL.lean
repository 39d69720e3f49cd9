/- The walk of the law FrameBack. -/
import Derived.Test.YtdnfijhclikkfaaDoorFRefO
namespace Go.Proofs.YtdnfijhclikkfaaDoor
open Go.RowKit Go.Lib

theorem slE_zero {k : Int} {s : List UInt8} (h : slE k s = 0) : 1 ≤ k ∧ k ≤ 255 ∧ s.length ≤ 505 := by
  unfold slE at h
  split at h
  · exact absurd h (by decide)
  · split at h
    · exact absurd h (by decide)
    · omega
theorem putB_cases (s : List UInt8) (n k : Int) : putB s n k = s ∨ (1 ≤ k ∧ k ≤ 8 ∧ 0 ≤ n ∧ n.toNat < 256 ^ k.toNat ∧ putB s n k = s ++ putL n.toNat k.toNat) := by
  unfold putB
  split
  · rename_i h
    refine .inr ⟨h.2.1, h.2.2.1, h.1, ?_, rfl⟩
    have h4 := h.2.2.2
    have hp : 0 < 256 ^ k.toNat := Nat.pow_pos (by decide)
    exact (Nat.div_eq_zero_iff_lt hp).1 h4
  · exact .inl rfl
theorem num_back (s : List UInt8) (n k : Int) (h1 : 1 ≤ k) (h7 : k ≤ 7) (h0 : 0 ≤ n) (hf : n.toNat < 256 ^ k.toNat) : nmE (s ++ putL n.toNat k.toNat) s.length k = 0 ∧ (nmV (s ++ putL n.toNat k.toNat) s.length k : Int) = n := by
  have he : nmE (s ++ putL n.toNat k.toNat) s.length k = 0 := by
    unfold nmE
    rw [if_neg (by omega), if_neg (by rw [List.length_append, putL_len]; omega)]
  refine ⟨he, ?_⟩
  unfold nmV
  rw [if_pos he, Int.toNat_natCast, List.drop_append_of_le_length (Nat.le_refl _), List.drop_of_length_le (Nat.le_refl _), List.nil_append, List.take_of_length_le (by rw [putL_len]; exact Nat.le_refl _), put_num hf]
  omega
set_option maxHeartbeats 8000000 in
set_option maxRecDepth 100000 in
/-- No number stands behind the bytes. -/
theorem back_none {W : World} (hE : Env W) (kd n k : Int) (bn : n ≤ 9223372036854775807) {A : Option Addr} {c : Nat} {s : List UInt8} (hB : BytesAt W A s.length s) (hn : A = none → c = 0) (hm : s.length ≤ 140737488351232) (hq : putB s n k = s) (hk : k < 1 ∨ 7 < k ∨ (1 ≤ k ∧ k ≤ 7)) : Calls Tryd.prog 7 #[.int .i64 kd, .slice A s.length c, .int .i64 n, .int .i64 k] W fun e w' => e = .returned (.bool true) ∧ Below W.heap.size W w' := by
  obtain ⟨q, hqq⟩ : ∃ q, q = putB s n k := ⟨_, rfl⟩
  have HQ := Lib.hid hqq
  have HQL := Lib.hid (show q.length = s.length by rw [hqq, hq])
  clear hqq hq
  obtain ⟨z, hwz⟩ : ∃ z, IntKind.i64.wrap ((s.length : Int) + k) = z := ⟨_, rfl⟩
  rcases hk with hk | hk | ⟨hk1, hk7⟩
  · by_cases hz : slE kd s = 0
    · have HE := Lib.hid hE
      have HY := Lib.hid (fun W' hb => hB.on (W' := W') hb)
      have HN := Lib.hid hn
      have HA := Lib.hid (fun W' hb => answers_any (hE.on (W' := W') hb))
      have HO := Lib.hid (fun W' hb => own_bytes (W := W') (HY.out W' hb) HN.out hm)
      have HB0 := Lib.hid (Below.refl W.heap.size W)
      have HM := Lib.hid hm
      have HNB := Lib.hid bn
      clear hE hB hn hm bn
      go_enter Tryd.func7, Tryd.ntmps7
      go_wp2_with fail
      go_at_call 11
      refine (HO.out _ HB0.out).mono ?_
      rintro e' w1 ⟨v1, rfl, hR1⟩
      obtain ⟨A1, c1, rfl, hY1, -, hl1, hm1⟩ := hR1.at
      have HB1 := Lib.hid hR1.1
      have HS1 := Lib.hid (Seal_any (c := c1) (HE.out.on hR1.1) kd hY1 hR1.nil)
      clear hR1 hY1 hl1 hm1
      have HKD := Lib.hid (slE_zero hz)
      rw [hz, show slV kd s = sealL kd.toNat s by unfold slV; rw [if_pos hz]] at HS1
      have hos := open_seal (kind := kd.toNat) (d := s) (by have := HKD.out; omega) (by have := HKD.out; omega) HKD.out.2.2
      have hls := sealL_len (kind := kd.toNat) HKD.out.2.2
      have hkd : ((kd.toNat : Nat) : Int) = kd := by have := HKD.out; omega
      have HOS := Lib.hid hos
      clear hz hos
      obtain ⟨sb, hsb⟩ : ∃ sb, sb = sealL kd.toNat s := ⟨_, rfl⟩
      rw [← hsb] at HS1 HOS hls
      have HLS := Lib.hid hls
      have HKD2 := Lib.hid hkd
      clear hsb hls hkd
      go_wp2_with fail
      go_at_call 17
      refine HS1.out.mono ?_
      rintro e' w2 ⟨v2, rfl, hR2⟩
      obtain ⟨A2, c2, rfl, hY2, -, hl2, hm2⟩ := hR2.at
      have HB2 := Lib.hid (HB1.out.trans (hR2.1.mono HB1.out.size))
      have HY2 := Lib.hid hY2
      have HL2 := Lib.hid hl2
      have HM2 := Lib.hid hm2
      clear hR2 hY2 hl2 hm2
      go_wp2_with fail
      go_at_call 9
      refine (HA.out _ HB2.out).mono ?_
      rintro e' w3 ⟨rfl, hb3⟩
      have HB3 := Lib.hid (HB2.out.trans (hb3.mono HB2.out.size))
      have hop := Open_any (c := c2) (HE.out.on HB3.out) (HY2.out.on hb3) HL2.out (by have := HM2.out; unfold maxLen at this; omega)
      rw [HOS.out.1, HOS.out.2.1, HOS.out.2.2, HKD2.out] at hop
      have HOP := Lib.hid hop
      clear hop hb3
      have hl512 : (sb.length : Int) = 512 := by have := HLS.out; omega
      go_wp2_with fail
      go_at_call 19
      refine HOP.out.mono ?_
      rintro e' w4 ⟨v4, rfl, hR4⟩
      obtain ⟨A4, c4, rfl, hY4, -, -, -⟩ := hR4.at
      have HB4 := Lib.hid (HB3.out.trans (hR4.1.mono HB3.out.size))
      have hcv1 := conv_str (c := c4) hY4
      have hcv2 := conv_str (c := c) (HY.out _ HB4.out)
      clear hR4 hY4
      go_wp2_with fail
      go_at_call 11
      refine (HO.out _ HB4.out).mono ?_
      rintro e' w5 ⟨v5, rfl, hR5⟩
      obtain ⟨A5, c5, rfl, hY5, -, hl5, hm5⟩ := hR5.at
      have HB5 := Lib.hid (HB4.out.trans (hR5.1.mono HB4.out.size))
      have HP5 := Lib.hid (PutNum_any (c := c5) n k hY5 hR5.nil HM.out HNB.out)
      rw [← HQ.out] at HP5
      clear hR5 hY5 hl5 hm5
      go_wp2_with fail
      go_at_call 13
      refine HP5.out.mono ?_
      rintro e' w6 ⟨v6, rfl, hR6⟩
      obtain ⟨A6, c6, rfl, hY6, -, hl6, hm6⟩ := hR6.at
      have HB6 := Lib.hid (HB5.out.trans (hR6.1.mono HB5.out.size))
      have HY6 := Lib.hid hY6
      have HL6 := Lib.hid hl6
      have HM6 := Lib.hid hm6
      clear hR6 hY6 hl6 hm6
      rw [HQL.out]
      go_wp2_with fail
      all_goals (go_ret; exact ⟨rfl, HB6.out⟩)
    · have HE := Lib.hid hE
      have HY := Lib.hid (fun W' hb => hB.on (W' := W') hb)
      have HN := Lib.hid hn
      have HA := Lib.hid (fun W' hb => answers_any (hE.on (W' := W') hb))
      have HO := Lib.hid (fun W' hb => own_bytes (W := W') (HY.out W' hb) HN.out hm)
      have HB0 := Lib.hid (Below.refl W.heap.size W)
      have HM := Lib.hid hm
      have HNB := Lib.hid bn
      clear hE hB hn hm bn
      go_enter Tryd.func7, Tryd.ntmps7
      go_wp2_with fail
      go_at_call 11
      refine (HO.out _ HB0.out).mono ?_
      rintro e' w1 ⟨v1, rfl, hR1⟩
      obtain ⟨A1, c1, rfl, hY1, -, hl1, hm1⟩ := hR1.at
      have HB1 := Lib.hid hR1.1
      have HS1 := Lib.hid (Seal_any (c := c1) (HE.out.on hR1.1) kd hY1 hR1.nil)
      clear hR1 hY1 hl1 hm1
      have hz1 : (slE kd s == 0) = false := by rw [beq_eq_false_iff_ne]; exact hz
      obtain ⟨q0, hq0⟩ : ∃ q0, q0 = slE kd s := ⟨_, rfl⟩
      rw [← hq0] at HS1 hz1
      clear hq0 hz
      go_wp2_with fail
      go_at_call 17
      refine HS1.out.mono ?_
      rintro e' w2 ⟨v2, rfl, hR2⟩
      have HB2 := Lib.hid (HB1.out.trans (hR2.1.mono HB1.out.size))
      clear hR2
      go_wp2_with fail
      go_at_call 9
      refine (HA.out _ HB2.out).mono ?_
      rintro e' w4 ⟨rfl, hb3⟩
      have HB4 := Lib.hid (HB2.out.trans (hb3.mono HB2.out.size))
      clear hb3
      go_wp2_with fail
      go_at_call 11
      refine (HO.out _ HB4.out).mono ?_
      rintro e' w5 ⟨v5, rfl, hR5⟩
      obtain ⟨A5, c5, rfl, hY5, -, hl5, hm5⟩ := hR5.at
      have HB5 := Lib.hid (HB4.out.trans (hR5.1.mono HB4.out.size))
      have HP5 := Lib.hid (PutNum_any (c := c5) n k hY5 hR5.nil HM.out HNB.out)
      rw [← HQ.out] at HP5
      clear hR5 hY5 hl5 hm5
      go_wp2_with fail
      go_at_call 13
      refine HP5.out.mono ?_
      rintro e' w6 ⟨v6, rfl, hR6⟩
      obtain ⟨A6, c6, rfl, hY6, -, hl6, hm6⟩ := hR6.at
      have HB6 := Lib.hid (HB5.out.trans (hR6.1.mono HB5.out.size))
      have HY6 := Lib.hid hY6
      have HL6 := Lib.hid hl6
      have HM6 := Lib.hid hm6
      clear hR6 hY6 hl6 hm6
      rw [HQL.out]
      go_wp2_with fail
      all_goals (go_ret; exact ⟨rfl, HB6.out⟩)
  · by_cases hz : slE kd s = 0
    · have HE := Lib.hid hE
      have HY := Lib.hid (fun W' hb => hB.on (W' := W') hb)
      have HN := Lib.hid hn
      have HA := Lib.hid (fun W' hb => answers_any (hE.on (W' := W') hb))
      have HO := Lib.hid (fun W' hb => own_bytes (W := W') (HY.out W' hb) HN.out hm)
      have HB0 := Lib.hid (Below.refl W.heap.size W)
      have HM := Lib.hid hm
      have HNB := Lib.hid bn
      clear hE hB hn hm bn
      go_enter Tryd.func7, Tryd.ntmps7
      go_wp2_with fail
      go_at_call 11
      refine (HO.out _ HB0.out).mono ?_
      rintro e' w1 ⟨v1, rfl, hR1⟩
      obtain ⟨A1, c1, rfl, hY1, -, hl1, hm1⟩ := hR1.at
      have HB1 := Lib.hid hR1.1
      have HS1 := Lib.hid (Seal_any (c := c1) (HE.out.on hR1.1) kd hY1 hR1.nil)
      clear hR1 hY1 hl1 hm1
      have HKD := Lib.hid (slE_zero hz)
      rw [hz, show slV kd s = sealL kd.toNat s by unfold slV; rw [if_pos hz]] at HS1
      have hos := open_seal (kind := kd.toNat) (d := s) (by have := HKD.out; omega) (by have := HKD.out; omega) HKD.out.2.2
      have hls := sealL_len (kind := kd.toNat) HKD.out.2.2
      have hkd : ((kd.toNat : Nat) : Int) = kd := by have := HKD.out; omega
      have HOS := Lib.hid hos
      clear hz hos
      obtain ⟨sb, hsb⟩ : ∃ sb, sb = sealL kd.toNat s := ⟨_, rfl⟩
      rw [← hsb] at HS1 HOS hls
      have HLS := Lib.hid hls
      have HKD2 := Lib.hid hkd
      clear hsb hls hkd
      go_wp2_with fail
      go_at_call 17
      refine HS1.out.mono ?_
      rintro e' w2 ⟨v2, rfl, hR2⟩
      obtain ⟨A2, c2, rfl, hY2, -, hl2, hm2⟩ := hR2.at
      have HB2 := Lib.hid (HB1.out.trans (hR2.1.mono HB1.out.size))
      have HY2 := Lib.hid hY2
      have HL2 := Lib.hid hl2
      have HM2 := Lib.hid hm2
      clear hR2 hY2 hl2 hm2
      go_wp2_with fail
      go_at_call 9
      refine (HA.out _ HB2.out).mono ?_
      rintro e' w3 ⟨rfl, hb3⟩
      have HB3 := Lib.hid (HB2.out.trans (hb3.mono HB2.out.size))
      have hop := Open_any (c := c2) (HE.out.on HB3.out) (HY2.out.on hb3) HL2.out (by have := HM2.out; unfold maxLen at this; omega)
      rw [HOS.out.1, HOS.out.2.1, HOS.out.2.2, HKD2.out] at hop
      have HOP := Lib.hid hop
      clear hop hb3
      have hl512 : (sb.length : Int) = 512 := by have := HLS.out; omega
      go_wp2_with fail
      go_at_call 19
      refine HOP.out.mono ?_
      rintro e' w4 ⟨v4, rfl, hR4⟩
      obtain ⟨A4, c4, rfl, hY4, -, -, -⟩ := hR4.at
      have HB4 := Lib.hid (HB3.out.trans (hR4.1.mono HB3.out.size))
      have hcv1 := conv_str (c := c4) hY4
      have hcv2 := conv_str (c := c) (HY.out _ HB4.out)
      clear hR4 hY4
      go_wp2_with fail
      go_at_call 11
      refine (HO.out _ HB4.out).mono ?_
      rintro e' w5 ⟨v5, rfl, hR5⟩
      obtain ⟨A5, c5, rfl, hY5, -, hl5, hm5⟩ := hR5.at
      have HB5 := Lib.hid (HB4.out.trans (hR5.1.mono HB4.out.size))
      have HP5 := Lib.hid (PutNum_any (c := c5) n k hY5 hR5.nil HM.out HNB.out)
      rw [← HQ.out] at HP5
      clear hR5 hY5 hl5 hm5
      go_wp2_with fail
      go_at_call 13
      refine HP5.out.mono ?_
      rintro e' w6 ⟨v6, rfl, hR6⟩
      obtain ⟨A6, c6, rfl, hY6, -, hl6, hm6⟩ := hR6.at
      have HB6 := Lib.hid (HB5.out.trans (hR6.1.mono HB5.out.size))
      have HY6 := Lib.hid hY6
      have HL6 := Lib.hid hl6
      have HM6 := Lib.hid hm6
      clear hR6 hY6 hl6 hm6
      rw [HQL.out]
      go_wp2_with fail
      all_goals (go_ret; exact ⟨rfl, HB6.out⟩)
    · have HE := Lib.hid hE
      have HY := Lib.hid (fun W' hb => hB.on (W' := W') hb)
      have HN := Lib.hid hn
      have HA := Lib.hid (fun W' hb => answers_any (hE.on (W' := W') hb))
      have HO := Lib.hid (fun W' hb => own_bytes (W := W') (HY.out W' hb) HN.out hm)
      have HB0 := Lib.hid (Below.refl W.heap.size W)
      have HM := Lib.hid hm
      have HNB := Lib.hid bn
      clear hE hB hn hm bn
      go_enter Tryd.func7, Tryd.ntmps7
      go_wp2_with fail
      go_at_call 11
      refine (HO.out _ HB0.out).mono ?_
      rintro e' w1 ⟨v1, rfl, hR1⟩
      obtain ⟨A1, c1, rfl, hY1, -, hl1, hm1⟩ := hR1.at
      have HB1 := Lib.hid hR1.1
      have HS1 := Lib.hid (Seal_any (c := c1) (HE.out.on hR1.1) kd hY1 hR1.nil)
      clear hR1 hY1 hl1 hm1
      have hz1 : (slE kd s == 0) = false := by rw [beq_eq_false_iff_ne]; exact hz
      obtain ⟨q0, hq0⟩ : ∃ q0, q0 = slE kd s := ⟨_, rfl⟩
      rw [← hq0] at HS1 hz1
      clear hq0 hz
      go_wp2_with fail
      go_at_call 17
      refine HS1.out.mono ?_
      rintro e' w2 ⟨v2, rfl, hR2⟩
      have HB2 := Lib.hid (HB1.out.trans (hR2.1.mono HB1.out.size))
      clear hR2
      go_wp2_with fail
      go_at_call 9
      refine (HA.out _ HB2.out).mono ?_
      rintro e' w4 ⟨rfl, hb3⟩
      have HB4 := Lib.hid (HB2.out.trans (hb3.mono HB2.out.size))
      clear hb3
      go_wp2_with fail
      go_at_call 11
      refine (HO.out _ HB4.out).mono ?_
      rintro e' w5 ⟨v5, rfl, hR5⟩
      obtain ⟨A5, c5, rfl, hY5, -, hl5, hm5⟩ := hR5.at
      have HB5 := Lib.hid (HB4.out.trans (hR5.1.mono HB4.out.size))
      have HP5 := Lib.hid (PutNum_any (c := c5) n k hY5 hR5.nil HM.out HNB.out)
      rw [← HQ.out] at HP5
      clear hR5 hY5 hl5 hm5
      go_wp2_with fail
      go_at_call 13
      refine HP5.out.mono ?_
      rintro e' w6 ⟨v6, rfl, hR6⟩
      obtain ⟨A6, c6, rfl, hY6, -, hl6, hm6⟩ := hR6.at
      have HB6 := Lib.hid (HB5.out.trans (hR6.1.mono HB5.out.size))
      have HY6 := Lib.hid hY6
      have HL6 := Lib.hid hl6
      have HM6 := Lib.hid hm6
      clear hR6 hY6 hl6 hm6
      rw [HQL.out]
      go_wp2_with fail
      all_goals (go_ret; exact ⟨rfl, HB6.out⟩)
  · have hzn : ((s.length : Int) != z) = true := by
      rw [bne_iff_ne, ← hwz, IntWalk.i64_in _ (by omega)]
      omega
    have hk1' : ¬ k < 1 := by omega
    have hk7' : ¬ 7 < k := by omega
    clear hk1 hk7
    by_cases hz : slE kd s = 0
    · have HE := Lib.hid hE
      have HY := Lib.hid (fun W' hb => hB.on (W' := W') hb)
      have HN := Lib.hid hn
      have HA := Lib.hid (fun W' hb => answers_any (hE.on (W' := W') hb))
      have HO := Lib.hid (fun W' hb => own_bytes (W := W') (HY.out W' hb) HN.out hm)
      have HB0 := Lib.hid (Below.refl W.heap.size W)
      have HM := Lib.hid hm
      have HNB := Lib.hid bn
      clear hE hB hn hm bn
      go_enter Tryd.func7, Tryd.ntmps7
      go_wp2_with fail
      go_at_call 11
      refine (HO.out _ HB0.out).mono ?_
      rintro e' w1 ⟨v1, rfl, hR1⟩
      obtain ⟨A1, c1, rfl, hY1, -, hl1, hm1⟩ := hR1.at
      have HB1 := Lib.hid hR1.1
      have HS1 := Lib.hid (Seal_any (c := c1) (HE.out.on hR1.1) kd hY1 hR1.nil)
      clear hR1 hY1 hl1 hm1
      have HKD := Lib.hid (slE_zero hz)
      rw [hz, show slV kd s = sealL kd.toNat s by unfold slV; rw [if_pos hz]] at HS1
      have hos := open_seal (kind := kd.toNat) (d := s) (by have := HKD.out; omega) (by have := HKD.out; omega) HKD.out.2.2
      have hls := sealL_len (kind := kd.toNat) HKD.out.2.2
      have hkd : ((kd.toNat : Nat) : Int) = kd := by have := HKD.out; omega
      have HOS := Lib.hid hos
      clear hz hos
      obtain ⟨sb, hsb⟩ : ∃ sb, sb = sealL kd.toNat s := ⟨_, rfl⟩
      rw [← hsb] at HS1 HOS hls
      have HLS := Lib.hid hls
      have HKD2 := Lib.hid hkd
      clear hsb hls hkd
      go_wp2_with fail
      go_at_call 17
      refine HS1.out.mono ?_
      rintro e' w2 ⟨v2, rfl, hR2⟩
      obtain ⟨A2, c2, rfl, hY2, -, hl2, hm2⟩ := hR2.at
      have HB2 := Lib.hid (HB1.out.trans (hR2.1.mono HB1.out.size))
      have HY2 := Lib.hid hY2
      have HL2 := Lib.hid hl2
      have HM2 := Lib.hid hm2
      clear hR2 hY2 hl2 hm2
      go_wp2_with fail
      go_at_call 9
      refine (HA.out _ HB2.out).mono ?_
      rintro e' w3 ⟨rfl, hb3⟩
      have HB3 := Lib.hid (HB2.out.trans (hb3.mono HB2.out.size))
      have hop := Open_any (c := c2) (HE.out.on HB3.out) (HY2.out.on hb3) HL2.out (by have := HM2.out; unfold maxLen at this; omega)
      rw [HOS.out.1, HOS.out.2.1, HOS.out.2.2, HKD2.out] at hop
      have HOP := Lib.hid hop
      clear hop hb3
      have hl512 : (sb.length : Int) = 512 := by have := HLS.out; omega
      go_wp2_with fail
      go_at_call 19
      refine HOP.out.mono ?_
      rintro e' w4 ⟨v4, rfl, hR4⟩
      obtain ⟨A4, c4, rfl, hY4, -, -, -⟩ := hR4.at
      have HB4 := Lib.hid (HB3.out.trans (hR4.1.mono HB3.out.size))
      have hcv1 := conv_str (c := c4) hY4
      have hcv2 := conv_str (c := c) (HY.out _ HB4.out)
      clear hR4 hY4
      go_wp2_with fail
      go_at_call 11
      refine (HO.out _ HB4.out).mono ?_
      rintro e' w5 ⟨v5, rfl, hR5⟩
      obtain ⟨A5, c5, rfl, hY5, -, hl5, hm5⟩ := hR5.at
      have HB5 := Lib.hid (HB4.out.trans (hR5.1.mono HB4.out.size))
      have HP5 := Lib.hid (PutNum_any (c := c5) n k hY5 hR5.nil HM.out HNB.out)
      rw [← HQ.out] at HP5
      clear hR5 hY5 hl5 hm5
      go_wp2_with fail
      go_at_call 13
      refine HP5.out.mono ?_
      rintro e' w6 ⟨v6, rfl, hR6⟩
      obtain ⟨A6, c6, rfl, hY6, -, hl6, hm6⟩ := hR6.at
      have HB6 := Lib.hid (HB5.out.trans (hR6.1.mono HB5.out.size))
      have HY6 := Lib.hid hY6
      have HL6 := Lib.hid hl6
      have HM6 := Lib.hid hm6
      clear hR6 hY6 hl6 hm6
      rw [HQL.out]
      go_wp2_with fail
      all_goals (go_ret; exact ⟨rfl, HB6.out⟩)
    · have HE := Lib.hid hE
      have HY := Lib.hid (fun W' hb => hB.on (W' := W') hb)
      have HN := Lib.hid hn
      have HA := Lib.hid (fun W' hb => answers_any (hE.on (W' := W') hb))
      have HO := Lib.hid (fun W' hb => own_bytes (W := W') (HY.out W' hb) HN.out hm)
      have HB0 := Lib.hid (Below.refl W.heap.size W)
      have HM := Lib.hid hm
      have HNB := Lib.hid bn
      clear hE hB hn hm bn
      go_enter Tryd.func7, Tryd.ntmps7
      go_wp2_with fail
      go_at_call 11
      refine (HO.out _ HB0.out).mono ?_
      rintro e' w1 ⟨v1, rfl, hR1⟩
      obtain ⟨A1, c1, rfl, hY1, -, hl1, hm1⟩ := hR1.at
      have HB1 := Lib.hid hR1.1
      have HS1 := Lib.hid (Seal_any (c := c1) (HE.out.on hR1.1) kd hY1 hR1.nil)
      clear hR1 hY1 hl1 hm1
      have hz1 : (slE kd s == 0) = false := by rw [beq_eq_false_iff_ne]; exact hz
      obtain ⟨q0, hq0⟩ : ∃ q0, q0 = slE kd s := ⟨_, rfl⟩
      rw [← hq0] at HS1 hz1
      clear hq0 hz
      go_wp2_with fail
      go_at_call 17
      refine HS1.out.mono ?_
      rintro e' w2 ⟨v2, rfl, hR2⟩
      have HB2 := Lib.hid (HB1.out.trans (hR2.1.mono HB1.out.size))
      clear hR2
      go_wp2_with fail
      go_at_call 9
      refine (HA.out _ HB2.out).mono ?_
      rintro e' w4 ⟨rfl, hb3⟩
      have HB4 := Lib.hid (HB2.out.trans (hb3.mono HB2.out.size))
      clear hb3
      go_wp2_with fail
      go_at_call 11
      refine (HO.out _ HB4.out).mono ?_
      rintro e' w5 ⟨v5, rfl, hR5⟩
      obtain ⟨A5, c5, rfl, hY5, -, hl5, hm5⟩ := hR5.at
      have HB5 := Lib.hid (HB4.out.trans (hR5.1.mono HB4.out.size))
      have HP5 := Lib.hid (PutNum_any (c := c5) n k hY5 hR5.nil HM.out HNB.out)
      rw [← HQ.out] at HP5
      clear hR5 hY5 hl5 hm5
      go_wp2_with fail
      go_at_call 13
      refine HP5.out.mono ?_
      rintro e' w6 ⟨v6, rfl, hR6⟩
      obtain ⟨A6, c6, rfl, hY6, -, hl6, hm6⟩ := hR6.at
      have HB6 := Lib.hid (HB5.out.trans (hR6.1.mono HB5.out.size))
      have HY6 := Lib.hid hY6
      have HL6 := Lib.hid hl6
      have HM6 := Lib.hid hm6
      clear hR6 hY6 hl6 hm6
      rw [HQL.out]
      go_wp2_with fail
      all_goals (go_ret; exact ⟨rfl, HB6.out⟩)
set_option maxHeartbeats 8000000 in
set_option maxRecDepth 100000 in
/-- A number of eight bytes, which isn't read. -/
theorem back_eight {W : World} (hE : Env W) (kd n k : Int) (bn : n ≤ 9223372036854775807) {A : Option Addr} {c : Nat} {s : List UInt8} (hB : BytesAt W A s.length s) (hn : A = none → c = 0) (hm : s.length ≤ 140737488351232) (hq : (putB s n k).length = s.length + 8) (hk : k = 8) : Calls Tryd.prog 7 #[.int .i64 kd, .slice A s.length c, .int .i64 n, .int .i64 k] W fun e w' => e = .returned (.bool true) ∧ Below W.heap.size W w' := by
  subst hk
  obtain ⟨q, hqq⟩ : ∃ q, q = putB s n 8 := ⟨_, rfl⟩
  have HQ := Lib.hid hqq
  rw [← hqq] at hq
  have HQL := Lib.hid hq
  have hw8 : IntKind.i64.wrap ((s.length : Int) + 8) = (s.length : Int) + 8 := IntWalk.i64_in _ (by omega)
  clear hqq hq
  by_cases hz : slE kd s = 0
  · have HE := Lib.hid hE
    have HY := Lib.hid (fun W' hb => hB.on (W' := W') hb)
    have HN := Lib.hid hn
    have HA := Lib.hid (fun W' hb => answers_any (hE.on (W' := W') hb))
    have HO := Lib.hid (fun W' hb => own_bytes (W := W') (HY.out W' hb) HN.out hm)
    have HB0 := Lib.hid (Below.refl W.heap.size W)
    have HM := Lib.hid hm
    have HNB := Lib.hid bn
    clear hE hB hn hm bn
    go_enter Tryd.func7, Tryd.ntmps7
    go_wp2_with fail
    go_at_call 11
    refine (HO.out _ HB0.out).mono ?_
    rintro e' w1 ⟨v1, rfl, hR1⟩
    obtain ⟨A1, c1, rfl, hY1, -, hl1, hm1⟩ := hR1.at
    have HB1 := Lib.hid hR1.1
    have HS1 := Lib.hid (Seal_any (c := c1) (HE.out.on hR1.1) kd hY1 hR1.nil)
    clear hR1 hY1 hl1 hm1
    have HKD := Lib.hid (slE_zero hz)
    rw [hz, show slV kd s = sealL kd.toNat s by unfold slV; rw [if_pos hz]] at HS1
    have hos := open_seal (kind := kd.toNat) (d := s) (by have := HKD.out; omega) (by have := HKD.out; omega) HKD.out.2.2
    have hls := sealL_len (kind := kd.toNat) HKD.out.2.2
    have hkd : ((kd.toNat : Nat) : Int) = kd := by have := HKD.out; omega
    have HOS := Lib.hid hos
    clear hz hos
    obtain ⟨sb, hsb⟩ : ∃ sb, sb = sealL kd.toNat s := ⟨_, rfl⟩
    rw [← hsb] at HS1 HOS hls
    have HLS := Lib.hid hls
    have HKD2 := Lib.hid hkd
    clear hsb hls hkd
    go_wp2_with fail
    go_at_call 17
    refine HS1.out.mono ?_
    rintro e' w2 ⟨v2, rfl, hR2⟩
    obtain ⟨A2, c2, rfl, hY2, -, hl2, hm2⟩ := hR2.at
    have HB2 := Lib.hid (HB1.out.trans (hR2.1.mono HB1.out.size))
    have HY2 := Lib.hid hY2
    have HL2 := Lib.hid hl2
    have HM2 := Lib.hid hm2
    clear hR2 hY2 hl2 hm2
    go_wp2_with fail
    go_at_call 9
    refine (HA.out _ HB2.out).mono ?_
    rintro e' w3 ⟨rfl, hb3⟩
    have HB3 := Lib.hid (HB2.out.trans (hb3.mono HB2.out.size))
    have hop := Open_any (c := c2) (HE.out.on HB3.out) (HY2.out.on hb3) HL2.out (by have := HM2.out; unfold maxLen at this; omega)
    rw [HOS.out.1, HOS.out.2.1, HOS.out.2.2, HKD2.out] at hop
    have HOP := Lib.hid hop
    clear hop hb3
    have hl512 : (sb.length : Int) = 512 := by have := HLS.out; omega
    go_wp2_with fail
    go_at_call 19
    refine HOP.out.mono ?_
    rintro e' w4 ⟨v4, rfl, hR4⟩
    obtain ⟨A4, c4, rfl, hY4, -, -, -⟩ := hR4.at
    have HB4 := Lib.hid (HB3.out.trans (hR4.1.mono HB3.out.size))
    have hcv1 := conv_str (c := c4) hY4
    have hcv2 := conv_str (c := c) (HY.out _ HB4.out)
    clear hR4 hY4
    go_wp2_with fail
    go_at_call 11
    refine (HO.out _ HB4.out).mono ?_
    rintro e' w5 ⟨v5, rfl, hR5⟩
    obtain ⟨A5, c5, rfl, hY5, -, hl5, hm5⟩ := hR5.at
    have HB5 := Lib.hid (HB4.out.trans (hR5.1.mono HB4.out.size))
    have HP5 := Lib.hid (PutNum_any (c := c5) n 8 hY5 hR5.nil HM.out HNB.out)
    rw [← HQ.out] at HP5
    clear hR5 hY5 hl5 hm5
    go_wp2_with fail
    go_at_call 13
    refine HP5.out.mono ?_
    rintro e' w6 ⟨v6, rfl, hR6⟩
    obtain ⟨A6, c6, rfl, hY6, -, hl6, hm6⟩ := hR6.at
    have HB6 := Lib.hid (HB5.out.trans (hR6.1.mono HB5.out.size))
    have HY6 := Lib.hid hY6
    have HL6 := Lib.hid hl6
    have HM6 := Lib.hid hm6
    clear hR6 hY6 hl6 hm6
    rw [HQL.out]
    go_wp2_with fail
    all_goals (go_ret; exact ⟨rfl, HB6.out⟩)
  · have HE := Lib.hid hE
    have HY := Lib.hid (fun W' hb => hB.on (W' := W') hb)
    have HN := Lib.hid hn
    have HA := Lib.hid (fun W' hb => answers_any (hE.on (W' := W') hb))
    have HO := Lib.hid (fun W' hb => own_bytes (W := W') (HY.out W' hb) HN.out hm)
    have HB0 := Lib.hid (Below.refl W.heap.size W)
    have HM := Lib.hid hm
    have HNB := Lib.hid bn
    clear hE hB hn hm bn
    go_enter Tryd.func7, Tryd.ntmps7
    go_wp2_with fail
    go_at_call 11
    refine (HO.out _ HB0.out).mono ?_
    rintro e' w1 ⟨v1, rfl, hR1⟩
    obtain ⟨A1, c1, rfl, hY1, -, hl1, hm1⟩ := hR1.at
    have HB1 := Lib.hid hR1.1
    have HS1 := Lib.hid (Seal_any (c := c1) (HE.out.on hR1.1) kd hY1 hR1.nil)
    clear hR1 hY1 hl1 hm1
    have hz1 : (slE kd s == 0) = false := by rw [beq_eq_false_iff_ne]; exact hz
    obtain ⟨q0, hq0⟩ : ∃ q0, q0 = slE kd s := ⟨_, rfl⟩
    rw [← hq0] at HS1 hz1
    clear hq0 hz
    go_wp2_with fail
    go_at_call 17
    refine HS1.out.mono ?_
    rintro e' w2 ⟨v2, rfl, hR2⟩
    have HB2 := Lib.hid (HB1.out.trans (hR2.1.mono HB1.out.size))
    clear hR2
    go_wp2_with fail
    go_at_call 9
    refine (HA.out _ HB2.out).mono ?_
    rintro e' w4 ⟨rfl, hb3⟩
    have HB4 := Lib.hid (HB2.out.trans (hb3.mono HB2.out.size))
    clear hb3
    go_wp2_with fail
    go_at_call 11
    refine (HO.out _ HB4.out).mono ?_
    rintro e' w5 ⟨v5, rfl, hR5⟩
    obtain ⟨A5, c5, rfl, hY5, -, hl5, hm5⟩ := hR5.at
    have HB5 := Lib.hid (HB4.out.trans (hR5.1.mono HB4.out.size))
    have HP5 := Lib.hid (PutNum_any (c := c5) n 8 hY5 hR5.nil HM.out HNB.out)
    rw [← HQ.out] at HP5
    clear hR5 hY5 hl5 hm5
    go_wp2_with fail
    go_at_call 13
    refine HP5.out.mono ?_
    rintro e' w6 ⟨v6, rfl, hR6⟩
    obtain ⟨A6, c6, rfl, hY6, -, hl6, hm6⟩ := hR6.at
    have HB6 := Lib.hid (HB5.out.trans (hR6.1.mono HB5.out.size))
    have HY6 := Lib.hid hY6
    have HL6 := Lib.hid hl6
    have HM6 := Lib.hid hm6
    clear hR6 hY6 hl6 hm6
    rw [HQL.out]
    go_wp2_with fail
    all_goals (go_ret; exact ⟨rfl, HB6.out⟩)
set_option maxHeartbeats 8000000 in
set_option maxRecDepth 100000 in
/-- A number that was written is read. -/
theorem back_some {W : World} (hE : Env W) (kd n : Int) (k : Nat) (bn : n ≤ 9223372036854775807) {A : Option Addr} {c : Nat} {s : List UInt8} (hB : BytesAt W A s.length s) (hn : A = none → c = 0) (hm : s.length ≤ 140737488351232)
    (hql : (putB s n (k : Nat)).length = s.length + k) (hk1 : 1 ≤ k) (hk7 : k ≤ 7) (hE0 : nmE (putB s n (k : Nat)) s.length (k : Nat) = 0) (hV0 : (nmV (putB s n (k : Nat)) s.length (k : Nat) : Int) = n) :
    Calls Tryd.prog 7 #[.int .i64 kd, .slice A s.length c, .int .i64 n, .int .i64 (k : Nat)] W fun e w' => e = .returned (.bool true) ∧ Below W.heap.size W w' := by
  obtain ⟨q, hqq⟩ : ∃ q, q = putB s n (k : Nat) := ⟨_, rfl⟩
  have HQ := Lib.hid hqq
  rw [← hqq] at hql hE0 hV0
  have HQL := Lib.hid hql
  have HE0 := Lib.hid hE0
  have HV0 := Lib.hid hV0
  have hw8 : IntKind.i64.wrap ((s.length : Int) + (k : Int)) = (s.length : Int) + (k : Int) := IntWalk.i64_in _ (by omega)
  have hk1' : ¬ (k : Int) < 1 := by omega
  have hk7' : ¬ 7 < (k : Int) := by omega
  have HK7 := Lib.hid hk7
  clear hqq hql hE0 hV0 hk1 hk7
  by_cases hz : slE kd s = 0
  · have HE := Lib.hid hE
    have HY := Lib.hid (fun W' hb => hB.on (W' := W') hb)
    have HN := Lib.hid hn
    have HA := Lib.hid (fun W' hb => answers_any (hE.on (W' := W') hb))
    have HO := Lib.hid (fun W' hb => own_bytes (W := W') (HY.out W' hb) HN.out hm)
    have HB0 := Lib.hid (Below.refl W.heap.size W)
    have HM := Lib.hid hm
    have HNB := Lib.hid bn
    clear hE hB hn hm bn
    go_enter Tryd.func7, Tryd.ntmps7
    go_wp2_with fail
    go_at_call 11
    refine (HO.out _ HB0.out).mono ?_
    rintro e' w1 ⟨v1, rfl, hR1⟩
    obtain ⟨A1, c1, rfl, hY1, -, hl1, hm1⟩ := hR1.at
    have HB1 := Lib.hid hR1.1
    have HS1 := Lib.hid (Seal_any (c := c1) (HE.out.on hR1.1) kd hY1 hR1.nil)
    clear hR1 hY1 hl1 hm1
    have HKD := Lib.hid (slE_zero hz)
    rw [hz, show slV kd s = sealL kd.toNat s by unfold slV; rw [if_pos hz]] at HS1
    have hos := open_seal (kind := kd.toNat) (d := s) (by have := HKD.out; omega) (by have := HKD.out; omega) HKD.out.2.2
    have hls := sealL_len (kind := kd.toNat) HKD.out.2.2
    have hkd : ((kd.toNat : Nat) : Int) = kd := by have := HKD.out; omega
    have HOS := Lib.hid hos
    clear hz hos
    obtain ⟨sb, hsb⟩ : ∃ sb, sb = sealL kd.toNat s := ⟨_, rfl⟩
    rw [← hsb] at HS1 HOS hls
    have HLS := Lib.hid hls
    have HKD2 := Lib.hid hkd
    clear hsb hls hkd
    go_wp2_with fail
    go_at_call 17
    refine HS1.out.mono ?_
    rintro e' w2 ⟨v2, rfl, hR2⟩
    obtain ⟨A2, c2, rfl, hY2, -, hl2, hm2⟩ := hR2.at
    have HB2 := Lib.hid (HB1.out.trans (hR2.1.mono HB1.out.size))
    have HY2 := Lib.hid hY2
    have HL2 := Lib.hid hl2
    have HM2 := Lib.hid hm2
    clear hR2 hY2 hl2 hm2
    go_wp2_with fail
    go_at_call 9
    refine (HA.out _ HB2.out).mono ?_
    rintro e' w3 ⟨rfl, hb3⟩
    have HB3 := Lib.hid (HB2.out.trans (hb3.mono HB2.out.size))
    have hop := Open_any (c := c2) (HE.out.on HB3.out) (HY2.out.on hb3) HL2.out (by have := HM2.out; unfold maxLen at this; omega)
    rw [HOS.out.1, HOS.out.2.1, HOS.out.2.2, HKD2.out] at hop
    have HOP := Lib.hid hop
    clear hop hb3
    have hl512 : (sb.length : Int) = 512 := by have := HLS.out; omega
    go_wp2_with fail
    go_at_call 19
    refine HOP.out.mono ?_
    rintro e' w4 ⟨v4, rfl, hR4⟩
    obtain ⟨A4, c4, rfl, hY4, -, -, -⟩ := hR4.at
    have HB4 := Lib.hid (HB3.out.trans (hR4.1.mono HB3.out.size))
    have hcv1 := conv_str (c := c4) hY4
    have hcv2 := conv_str (c := c) (HY.out _ HB4.out)
    clear hR4 hY4
    go_wp2_with fail
    go_at_call 11
    refine (HO.out _ HB4.out).mono ?_
    rintro e' w5 ⟨v5, rfl, hR5⟩
    obtain ⟨A5, c5, rfl, hY5, -, hl5, hm5⟩ := hR5.at
    have HB5 := Lib.hid (HB4.out.trans (hR5.1.mono HB4.out.size))
    have HP5 := Lib.hid (PutNum_any (c := c5) n (k : Nat) hY5 hR5.nil HM.out HNB.out)
    rw [← HQ.out] at HP5
    clear hR5 hY5 hl5 hm5
    go_wp2_with fail
    go_at_call 13
    refine HP5.out.mono ?_
    rintro e' w6 ⟨v6, rfl, hR6⟩
    obtain ⟨A6, c6, rfl, hY6, -, hl6, hm6⟩ := hR6.at
    have HB6 := Lib.hid (HB5.out.trans (hR6.1.mono HB5.out.size))
    have HY6 := Lib.hid hY6
    have HL6 := Lib.hid hl6
    have HM6 := Lib.hid hm6
    clear hR6 hY6 hl6 hm6
    have hnu := Num_any (c := c6) (s.length : Int) (k : Nat) HY6.out HL6.out (by have := HM6.out; unfold maxLen at this; omega) (by have := HM.out; have := HQL.out; have := HK7.out; omega) (by have := HM.out; omega)
    rw [HE0.out, HV0.out, HQL.out] at hnu
    have HNU := Lib.hid hnu
    clear hnu
    rw [HQL.out]
    go_wp2_with (go_at_call 14; (with_reducible refine HNU.out.mono ?_); rintro e' wz ⟨rfl, hwz⟩; have hwz := hwz.symm; subst hwz)
    all_goals (go_ret; exact ⟨rfl, HB6.out⟩)
  · have HE := Lib.hid hE
    have HY := Lib.hid (fun W' hb => hB.on (W' := W') hb)
    have HN := Lib.hid hn
    have HA := Lib.hid (fun W' hb => answers_any (hE.on (W' := W') hb))
    have HO := Lib.hid (fun W' hb => own_bytes (W := W') (HY.out W' hb) HN.out hm)
    have HB0 := Lib.hid (Below.refl W.heap.size W)
    have HM := Lib.hid hm
    have HNB := Lib.hid bn
    clear hE hB hn hm bn
    go_enter Tryd.func7, Tryd.ntmps7
    go_wp2_with fail
    go_at_call 11
    refine (HO.out _ HB0.out).mono ?_
    rintro e' w1 ⟨v1, rfl, hR1⟩
    obtain ⟨A1, c1, rfl, hY1, -, hl1, hm1⟩ := hR1.at
    have HB1 := Lib.hid hR1.1
    have HS1 := Lib.hid (Seal_any (c := c1) (HE.out.on hR1.1) kd hY1 hR1.nil)
    clear hR1 hY1 hl1 hm1
    have hz1 : (slE kd s == 0) = false := by rw [beq_eq_false_iff_ne]; exact hz
    obtain ⟨q0, hq0⟩ : ∃ q0, q0 = slE kd s := ⟨_, rfl⟩
    rw [← hq0] at HS1 hz1
    clear hq0 hz
    go_wp2_with fail
    go_at_call 17
    refine HS1.out.mono ?_
    rintro e' w2 ⟨v2, rfl, hR2⟩
    have HB2 := Lib.hid (HB1.out.trans (hR2.1.mono HB1.out.size))
    clear hR2
    go_wp2_with fail
    go_at_call 9
    refine (HA.out _ HB2.out).mono ?_
    rintro e' w4 ⟨rfl, hb3⟩
    have HB4 := Lib.hid (HB2.out.trans (hb3.mono HB2.out.size))
    clear hb3
    go_wp2_with fail
    go_at_call 11
    refine (HO.out _ HB4.out).mono ?_
    rintro e' w5 ⟨v5, rfl, hR5⟩
    obtain ⟨A5, c5, rfl, hY5, -, hl5, hm5⟩ := hR5.at
    have HB5 := Lib.hid (HB4.out.trans (hR5.1.mono HB4.out.size))
    have HP5 := Lib.hid (PutNum_any (c := c5) n (k : Nat) hY5 hR5.nil HM.out HNB.out)
    rw [← HQ.out] at HP5
    clear hR5 hY5 hl5 hm5
    go_wp2_with fail
    go_at_call 13
    refine HP5.out.mono ?_
    rintro e' w6 ⟨v6, rfl, hR6⟩
    obtain ⟨A6, c6, rfl, hY6, -, hl6, hm6⟩ := hR6.at
    have HB6 := Lib.hid (HB5.out.trans (hR6.1.mono HB5.out.size))
    have HY6 := Lib.hid hY6
    have HL6 := Lib.hid hl6
    have HM6 := Lib.hid hm6
    clear hR6 hY6 hl6 hm6
    have hnu := Num_any (c := c6) (s.length : Int) (k : Nat) HY6.out HL6.out (by have := HM6.out; unfold maxLen at this; omega) (by have := HM.out; have := HQL.out; have := HK7.out; omega) (by have := HM.out; omega)
    rw [HE0.out, HV0.out, HQL.out] at hnu
    have HNU := Lib.hid hnu
    clear hnu
    rw [HQL.out]
    go_wp2_with (go_at_call 14; (with_reducible refine HNU.out.mono ?_); rintro e' wz ⟨rfl, hwz⟩; have hwz := hwz.symm; subst hwz)
    all_goals (go_ret; exact ⟨rfl, HB6.out⟩)
theorem back_walk {W : World} (hE : Env W) (kd n k : Int) (bn : n ≤ 9223372036854775807) {A : Option Addr} {c : Nat} {s : List UInt8} (hB : BytesAt W A s.length s) (hn : A = none → c = 0) (hm : s.length ≤ 140737488351232) : Calls Tryd.prog 7 #[.int .i64 kd, .slice A s.length c, .int .i64 n, .int .i64 k] W fun e w' => e = .returned (.bool true) ∧ Below W.heap.size W w' := by
  rcases putB_cases s n k with h | ⟨h1, h8, h0, hf, h⟩
  · exact back_none hE kd n k bn hB hn hm h (by omega)
  · have hl : (putB s n k).length = s.length + k.toNat := by rw [h, List.length_append, putL_len]
    by_cases hk : k = 8
    · exact back_eight hE kd n k bn hB hn hm (by rw [hl, hk]; rfl) hk
    · obtain ⟨hE0, hV0⟩ := num_back s n k h1 (by omega) h0 hf
      rw [← h] at hE0 hV0
      have hkk : ((k.toNat : Nat) : Int) = k := by omega
      have := back_some hE kd n k.toNat bn (A := A) (c := c) hB hn hm (by rw [hkk]; exact hl) (by omega) (by omega) (by rw [hkk]; exact hE0) (by rw [hkk]; exact hV0)
      rwa [hkk] at this
end Go.Proofs.YtdnfijhclikkfaaDoor
