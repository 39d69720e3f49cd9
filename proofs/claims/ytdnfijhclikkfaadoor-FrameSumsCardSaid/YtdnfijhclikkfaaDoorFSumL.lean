/- The walks of the laws FrameSums and FrameSeals. -/
import Derived.Test.YtdnfijhclikkfaaDoorFRefS
namespace Go.Proofs.YtdnfijhclikkfaaDoor
open Go.RowKit Go.Lib

set_option maxHeartbeats 2000000 in
theorem sums_walk {W : World} (hE : Env W) {A : Option Addr} {c : Nat} {s : List UInt8} (hB : BytesAt W A s.length s) (hn : A = none → c = 0) (hm : s.length ≤ 140737488351232) :
    Calls Tryd.prog 3 #[.slice A s.length c] W fun e w' => e = .returned (.bool true) ∧ Below W.heap.size W w' := by
  have HE := Lib.hid hE
  have HY := Lib.hid (fun W' hb => hB.on (W' := W') hb)
  have HN := Lib.hid hn
  have HA := Lib.hid (answers_any hE)
  have HO := Lib.hid (fun W' hb => own_bytes (W := W') (HY.out W' hb) HN.out hm)
  have HR := Lib.hid (fun W' hb => ref_Sum (W := W') (c := c) (HY.out W' hb) (by omega))
  clear hE hB hn
  go_enter Tryd.func3, Tryd.ntmps3
  go_wp2_with (first
    | (go_at_call 9; (with_reducible refine HA.out.mono ?_); rintro e' w1 ⟨rfl, hb1⟩; have HB1 := Lib.hid hb1; clear hb1)
    | (go_at_call 11; (with_reducible refine (HO.out _ HB1.out).mono ?_); rintro e' w2 ⟨v2, rfl, hR2⟩; obtain ⟨A2, c2, rfl, hY2, -, -, -⟩ := hR2.at; have HR2 := Lib.hid hR2; have HB2 := Lib.hid (HB1.out.trans (hR2.1.mono HB1.out.size)); have HS2 := Lib.hid (Sum_any (c := c2) (HE.out.on HB2.out) hY2 (by omega)); clear hR2 hY2)
    | (go_at_call 10; (with_reducible refine HS2.out.mono ?_); rintro e' wz ⟨rfl, hwz⟩; have hwz := hwz.symm; subst hwz)
    | (go_at_call 12; (with_reducible refine (HR.out _ HB2.out).mono ?_); rintro e' wz ⟨rfl, hwz⟩; have hwz := hwz.symm; subst hwz))
  go_ret
  exact ⟨rfl, HB2.out⟩

set_option maxHeartbeats 2000000 in
theorem seals_walk {W : World} (hE : Env W) (k : Int) {A : Option Addr} {c : Nat} {s : List UInt8} (hB : BytesAt W A s.length s) (hn : A = none → c = 0) (hm : s.length ≤ 140737488351232) :
    Calls Tryd.prog 5 #[.int .i64 k, .slice A s.length c] W fun e w' => e = .returned (.bool true) ∧ Below W.heap.size W w' := by
  have HE := Lib.hid hE
  have HY := Lib.hid (fun W' hb => hB.on (W' := W') hb)
  have HN := Lib.hid hn
  have HA := Lib.hid (fun W' hb => answers_any (hE.on (W' := W') hb))
  have HO := Lib.hid (own_bytes hB hn hm)
  have HR := Lib.hid (fun W' hb => ref_Seal (W := W') (c := c) k (HY.out W' hb) HN.out)
  clear hE hB hn
  obtain ⟨q, hq⟩ : ∃ q, q = slV k s := ⟨_, rfl⟩
  have HQ := Lib.hid hq
  clear hq
  go_enter Tryd.func5, Tryd.ntmps5
  go_wp2_with (go_at_call 11; go_must ((with_reducible refine HO.out.mono ?_); rintro e' w2 ⟨v2, rfl, hR2⟩; obtain ⟨A2, c2, rfl, hY2, -, hl2, -⟩ := hR2.at; have HB2 := Lib.hid hR2.1; have HP := Lib.hid (Seal_any (c := c2) (HE.out.on hR2.1) k hY2 hR2.nil); clear hR2 hY2 hl2))
  go_at_call 17
  refine HP.out.mono ?_
  rintro e' w3 ⟨v3, rfl, hR3⟩
  rw [← HQ.out] at hR3
  obtain ⟨A3, c3, rfl, hY3, -, -, -⟩ := hR3.at
  have HB3 := Lib.hid (HB2.out.trans (hR3.1.mono HB2.out.size))
  have HR3 := Lib.hid hR3
  have HY3 := Lib.hid hY3
  clear hR3 hY3
  go_wp2_with fail
  go_at_call 18
  refine (HR.out _ HB3.out).mono ?_
  rintro e' w4 ⟨v4, rfl, hR4⟩
  rw [← HQ.out] at hR4
  obtain ⟨A4, c4, rfl, hY4, -, -, -⟩ := hR4.at
  have HB4 := Lib.hid (HB3.out.trans (hR4.1.mono HB3.out.size))
  have HY4 := Lib.hid hY4
  have HZ4 := Lib.hid (HY3.out.on hR4.1)
  clear hR4 hY4
  go_wp2_with (go_at_call 9; go_must ((with_reducible refine (HA.out _ HB4.out).mono ?_); rintro e' w5 ⟨rfl, hb5⟩; have HB5 := Lib.hid (HB4.out.trans (hb5.mono HB4.out.size)); have hc1 := conv_str (c := c3) (HZ4.out.on hb5); have hc2 := conv_str (c := c4) (HY4.out.on hb5); clear hb5))
  go_ret
  exact ⟨rfl, HB5.out⟩
end Go.Proofs.YtdnfijhclikkfaaDoor
