/- The walk of the law FrameBits. -/
import Derived.Test.YtdnfijhclikkfaaDoorFBackL
namespace Go.Proofs.YtdnfijhclikkfaaDoor
open Go.RowKit Go.Lib

set_option maxHeartbeats 4000000 in
theorem bits_err {W : World} (hE : Env W) (kd : Int) (bit : Nat) {A : Option Addr} {c : Nat} {s : List UInt8} (hB : BytesAt W A s.length s) (hn : A = none → c = 0) (hm : s.length ≤ 140737488351232) (hz : slE kd s ≠ 0) :
    Calls Tryd.prog 8 #[.int .i64 kd, .slice A s.length c, .int .u16 (bit : Nat)] W fun e w' => e = .returned (.bool true) ∧ Below W.heap.size W w' := by
  have HE := Lib.hid hE
  have HA := Lib.hid (fun W' hb => answers_any (hE.on (W' := W') hb))
  have HO := Lib.hid (own_bytes hB hn hm)
  have hz1 : (slE kd s != 0) = true := by rw [bne_iff_ne]; exact hz
  obtain ⟨q0, hq0⟩ : ∃ q0, q0 = slE kd s := ⟨_, rfl⟩
  have HQ0 := Lib.hid hq0
  rw [← hq0] at hz1
  clear hE hB hn hm hz hq0
  go_enter Tryd.func8, Tryd.ntmps8
  go_wp2_with fail
  go_at_call 11
  refine HO.out.mono ?_
  rintro e' w1 ⟨v1, rfl, hR1⟩
  obtain ⟨A1, c1, rfl, hY1, -, hl1, hm1⟩ := hR1.at
  have HB1 := Lib.hid hR1.1
  have HS1 := Lib.hid (Seal_any (c := c1) (HE.out.on hR1.1) kd hY1 hR1.nil)
  rw [← HQ0.out] at HS1
  clear hR1 hY1 hl1 hm1
  go_wp2_with fail
  go_at_call 17
  refine HS1.out.mono ?_
  rintro e' w2 ⟨v2, rfl, hR2⟩
  have HB2 := Lib.hid (HB1.out.trans (hR2.1.mono HB1.out.size))
  obtain ⟨A2, c2, rfl, -, -, -, -⟩ := hR2.at
  clear hR2
  go_wp2_with fail
  go_at_call 9
  refine (HA.out _ HB2.out).mono ?_
  rintro e' w3 ⟨rfl, hb3⟩
  have HB3 := Lib.hid (HB2.out.trans (hb3.mono HB2.out.size))
  clear hb3
  go_wp2_with fail
  go_at_call 9
  refine (HA.out _ HB3.out).mono ?_
  rintro e' w4 ⟨rfl, hb4⟩
  have HB4 := Lib.hid (HB3.out.trans (hb4.mono HB3.out.size))
  clear hb4
  go_wp2_with fail
  go_ret
  exact ⟨rfl, HB4.out⟩
theorem flip_ne (x : UInt8) (r : Nat) (hr : r < 8) : UInt8.ofNat (x.toNat ^^^ 2 ^ r) ≠ x := by
  intro h
  have h1 := congrArg UInt8.toNat h
  have hl : x.toNat ^^^ 2 ^ r < 2 ^ 8 := Nat.xor_lt_two_pow x.toNat_lt (Nat.pow_lt_pow_right (by decide) hr)
  rw [UInt8.toNat_ofNat', Nat.mod_eq_of_lt hl] at h1
  have h2 : 2 ^ r = 0 := by
    have : x.toNat ^^^ (x.toNat ^^^ 2 ^ r) = x.toNat ^^^ x.toNat := by rw [h1]
    rwa [← Nat.xor_assoc, Nat.xor_self, Nat.zero_xor] at this
  have := Nat.pow_pos (n := r) (show 0 < 2 by decide)
  omega
set_option maxHeartbeats 4000000 in
theorem bits_good {W : World} (hE : Env W) (kd : Int) (bit : Nat) (hbit : bit ≤ 65535) {A : Option Addr} {c : Nat} {s : List UInt8} (hB : BytesAt W A s.length s) (hn : A = none → c = 0) (hm : s.length ≤ 140737488351232) (hz : slE kd s = 0) :
    Calls Tryd.prog 8 #[.int .i64 kd, .slice A s.length c, .int .u16 (bit : Nat)] W fun e w' => e = .returned (.bool true) ∧ Below W.heap.size W w' := by
  have HE := Lib.hid hE
  have HA := Lib.hid (fun W' hb => answers_any (hE.on (W' := W') hb))
  have HO := Lib.hid (own_bytes hB hn hm)
  have hkd := slE_zero hz
  have hsv : slV kd s = sealL kd.toNat s := by unfold slV; rw [if_pos hz]
  have hls := sealL_len (kind := kd.toNat) hkd.2.2
  have hK : bit % 4096 < 4096 := Nat.mod_lt _ (by decide)
  obtain ⟨K, hKe⟩ : ∃ K, K = bit % 4096 := ⟨_, rfl⟩
  have hob : ∀ x, (sealL kd.toNat s).getD (K / 8) 0 ≠ x → _ := fun x hx => open_bit (kind := kd.toNat) hkd.2.2 (show K / 8 < 512 by omega) hx
  obtain ⟨sb, hsb⟩ : ∃ sb, sb = sealL kd.toNat s := ⟨_, rfl⟩
  rw [← hsb] at hsv hls hob
  have HOB := Lib.hid hob
  have HLS := Lib.hid hls
  have HSV := Lib.hid hsv
  have HZ := Lib.hid hz
  have hw1 : IntKind.i64.wrap (bit : Int) = (bit : Int) := IntWalk.i64_in _ (by omega)
  have hr1 : ((bit : Int)).tmod 4096 = (K : Int) := by rw [Int.tmod_eq_emod_of_nonneg (by omega)]; omega
  rw [← hKe] at hK
  obtain ⟨Q, hQ⟩ : ∃ Q, Q = K / 8 := ⟨_, rfl⟩
  obtain ⟨R, hR⟩ : ∃ R, R = K % 8 := ⟨_, rfl⟩
  have hq1 : ((K : Int)).tdiv 8 = (Q : Int) := by rw [Int.tdiv_eq_ediv_of_nonneg (by omega)]; omega
  have hr2 : ((K : Int)).tmod 8 = (R : Int) := by rw [Int.tmod_eq_emod_of_nonneg (by omega)]; omega
  have hQ5 : Q < 512 := by omega
  have hR8 : R < 8 := by omega
  rw [← hQ] at HOB
  have hl512 : (sb.length : Int) = 512 := by omega
  have hQi : (Q : Int) < 512 := by omega
  have hQi0 : (0 : Int) ≤ (Q : Int) := by omega
  clear hE hB hn hm hz hkd hsv hls hob hsb hKe hQ hR hK
  go_enter Tryd.func8, Tryd.ntmps8
  go_wp2_with fail
  go_at_call 11
  refine HO.out.mono ?_
  rintro e' w1 ⟨v1, rfl, hR1⟩
  obtain ⟨A1, c1, rfl, hY1, -, hl1, hm1⟩ := hR1.at
  have HB1 := Lib.hid hR1.1
  have HS1 := Lib.hid (Seal_any (c := c1) (HE.out.on hR1.1) kd hY1 hR1.nil)
  rw [HZ.out, HSV.out] at HS1
  clear hR1 hY1 hl1 hm1
  go_wp2_with fail
  go_at_call 17
  refine HS1.out.mono ?_
  rintro e' w2 ⟨v2, rfl, hR2⟩
  have HB2 := Lib.hid (HB1.out.trans (hR2.1.mono HB1.out.size))
  obtain ⟨g, c2, rfl, hg0, hg1, hl2, hm2⟩ := hR2.some (by have := HLS.out; omega)
  have HR2 := Lib.hid hR2
  have HG := Lib.hid hg0
  have HL2 := Lib.hid hl2
  have HM2 := Lib.hid hm2
  clear hR2 hg0 hg1 hl2 hm2
  go_wp2_with fail
  go_at_call 9
  refine (HA.out _ HB2.out).mono ?_
  rintro e' w3 ⟨rfl, hb3⟩
  have HB3 := Lib.hid (HB2.out.trans (hb3.mono HB2.out.size))
  have HR3 := Lib.hid (HR2.out.on hb3)
  have HE3 := Lib.hid (HE.out.on HB3.out)
  obtain ⟨A3, c3, e3, hY3, -, -, -⟩ := HR3.out.at
  cases e3
  obtain ⟨g', o', e4, hcq⟩ := byte_at hY3 (show Q < sb.length by have := HLS.out; omega)
  cases e4
  rw [Nat.zero_add] at hcq
  have hfz := HR3.out.2.frozenAt Q
  have hgx := List.getElem?_eq_getElem (show Q < sb.length by have := HLS.out; omega)
  have HGX := Lib.hid hgx
  generalize sb[Q]'(by have := HLS.out; omega) = x at *
  clear hb3 hY3 hgx
  have hR2 : (2 : Nat) ^ R < 256 := by
    have := Nat.pow_lt_pow_right (a := 2) (by decide) hR8
    simpa using this
  have hy : bits .xor .u8 ((x.toNat : Nat) : Int) (2 ^ R % 256) = (((UInt8.ofNat (x.toNat ^^^ 2 ^ R)).toNat : Nat) : Int) := by
    have hl : x.toNat ^^^ 2 ^ R < 2 ^ 8 := Nat.xor_lt_two_pow x.toNat_lt hR2
    rw [UInt8.toNat_ofNat', Nat.mod_eq_of_lt hl, ← u8_xor_nat x.toNat (2 ^ R) x.toNat_lt hR2]
    congr 1
    have : ((2 ^ R : Nat) : Int) = (2 : Int) ^ R := by simp
    rw [← this]
    exact Int.emod_eq_of_lt (Int.natCast_nonneg _) (Int.ofNat_lt.2 hR2)
  have HYE := Lib.hid hy
  have HFL := Lib.hid (flip_ne x R hR8)
  generalize UInt8.ofNat (x.toNat ^^^ 2 ^ R) = y at *
  have hxy : sb.getD Q 0 ≠ y := by
    rw [List.getD_eq_getElem?_getD, HGX.out]
    exact fun h => HFL.out h.symm
  have HOY := Lib.hid (HOB.out y hxy)
  have HR4 := Lib.hid (HR3.out.setd Q y)
  clear hy hxy
  go_wp2_with fail
  rw [HYE.out]
  have hB4 := HR4.out.1
  have HB4 := Lib.hid (HB1.out.trans (hB4.mono HB1.out.size))
  have hop := Open_any (c := c2) (s := sb.set Q y) (HE.out.on HB4.out) (by
    obtain ⟨A, c, e, hY, -, -, -⟩ := HR4.out.at
    simp only [List.length_set] at e hY ⊢
    cases e
    exact hY) (by rw [List.length_set]; exact HL2.out) (by have := HM2.out; unfold maxLen at this; omega)
  rw [HOY.out.1, HOY.out.2, List.length_set] at hop
  have HOP := Lib.hid hop
  clear hop hB4
  refine HOP.out.mono ?_
  rintro e' w5 ⟨v5, rfl, hR5⟩
  obtain ⟨A5, c5, rfl, -, -, -, -⟩ := hR5.at
  have HB5 := Lib.hid (HB4.out.trans (hR5.1.mono HB4.out.size))
  clear hR5
  unfold ESUM
  go_wp2_with fail
  go_ret
  exact ⟨rfl, HB5.out⟩
theorem bits_walk {W : World} (hE : Env W) (kd : Int) (bit : Nat) (hbit : bit ≤ 65535) {A : Option Addr} {c : Nat} {s : List UInt8} (hB : BytesAt W A s.length s) (hn : A = none → c = 0) (hm : s.length ≤ 140737488351232) :
    Calls Tryd.prog 8 #[.int .i64 kd, .slice A s.length c, .int .u16 (bit : Nat)] W fun e w' => e = .returned (.bool true) ∧ Below W.heap.size W w' := by
  by_cases hz : slE kd s = 0
  · exact bits_good hE kd bit hbit hB hn hm hz
  · exact bits_err hE kd bit hB hn hm hz
end Go.Proofs.YtdnfijhclikkfaaDoor
