/- The walk of the law FrameKeeps. -/
import Derived.Test.YtdnfijhclikkfabDoorFRefS
namespace Go.Proofs.YtdnfijhclikkfabDoor
open Go.RowKit Go.Lib

theorem slE_zero {k : Int} {s : List UInt8} (h : slE k s = 0) : 1 ≤ k ∧ k ≤ 255 ∧ s.length ≤ 505 := by
  unfold slE at h
  split at h
  · exact absurd h (by decide)
  · split at h
    · exact absurd h (by decide)
    · omega
theorem run_to (g o n c m : Nat) (hm : m ≤ c) (w : World) :
    (Instr.slice 22 (.slice (some ⟨g, o, none⟩) n c) none (some (.int .i64 (m : Nat))) none).run Tryd.prog w = .ok (.slice (some ⟨g, o, none⟩) m c) w := by
  have h1 := Tryd.underlying22
  have h2 := Tryd.sizeOf5
  have h3 : Tryd.prog.elem 22 = 5 := by kernel_rfl
  rw [run_slice_h (P := Tryd.prog) (t := 22) (a := some ⟨g, o, none⟩) (len := n) (cap := c) (ht := by rw [h3]; exact h1) (kh := .i64) (h := m) (h0 := by omega) (h2 := by omega), h3, h2]
  simp [Result.andThen, sliced, Addr.add_lit]
theorem BRow.other {w0 W : World} {v : Value} {l : List UInt8} {g : Nat} (h : BRow w0 v l W) (hg : w0.heap.size ≤ g) (hv : v.ownBlock ≠ Option.some g) (i : Nat) (x : Value) : BRow w0 v l (W.setCell ⟨g, i, Option.none⟩ x) :=
  ⟨below_of h.1 hg (grew_set (World.grownBy.refl W (Option.some g)) i x), h.2.kept (grew_set (World.grownBy.refl W (Option.some g)) i x) (.inr hv)⟩
theorem BytesAt.front {W : World} {A : Option Addr} {s t : List UInt8} (h : BytesAt W A (s ++ t).length (s ++ t)) : BytesAt W A s.length s := fun h0 => by
  obtain ⟨g, o, e, hc⟩ := h (by rw [List.length_append]; omega)
  refine ⟨g, o, e, fun i hi => ?_⟩
  rw [hc i (by rw [List.length_append]; omega)]
  simp [List.getD_eq_getElem?_getD, List.getElem?_append_left hi]
set_option maxHeartbeats 8000000 in
set_option maxRecDepth 100000 in
theorem keeps_walk {W : World} (hE : Env W) (kd n : Int) (bn : n ≤ 9223372036854775807) {A : Option Addr} {c : Nat} {s : List UInt8} (hB : BytesAt W A s.length s) (hn : A = none → c = 0) (hm : s.length ≤ 140737488351232) :
    Calls Tryd.prog 3 #[.int .i64 kd, .slice A s.length c, .int .i64 n] W fun e w' => e = .returned (.bool true) ∧ Below W.heap.size W w' := by
  have HE := Lib.hid hE
  have HY := Lib.hid (fun W' hb => hB.on (W' := W') hb)
  have HN := Lib.hid hn
  have HA := Lib.hid (fun W' hb => answers_any (hE.on (W' := W') hb))
  have HO := Lib.hid (own_bytes hB hn hm)
  have HM := Lib.hid hm
  have HNB := Lib.hid bn
  have HRS := Lib.hid (fun W' hb => ref_Seal (W := W') (c := c) kd (HY.out W' hb) HN.out)
  obtain ⟨E0, hE0⟩ : ∃ E0, E0 = slE kd s := ⟨_, rfl⟩
  obtain ⟨Q0, hQ0⟩ : ∃ Q0, Q0 = slV kd s := ⟨_, rfl⟩
  obtain ⟨P0, hP0⟩ : ∃ P0, P0 = putB s n 2 := ⟨_, rfl⟩
  have hPl : P0.length ≤ s.length + 2 := by
    rw [hP0]; unfold putB; split
    · rw [List.length_append, putL_len]; exact Nat.le_refl _
    · omega
  have hQl : Q0.length ≤ 512 := by
    rw [hQ0]; unfold slV; split
    · rename_i h; rw [sealL_len (slE_zero h).2.2]; exact Nat.le_refl _
    · simp
  rw [← hE0, ← hQ0] at HRS
  have HE0 := Lib.hid hE0
  have HQ0 := Lib.hid hQ0
  have HP0 := Lib.hid hP0
  have HPl := Lib.hid hPl
  have HQl := Lib.hid hQl
  clear hE hB hn hm bn hE0 hQ0 hP0 hPl hQl
  go_enter Tryd.func3, Tryd.ntmps3
  go_wp2_with fail
  go_at_call 5
  refine HO.out.mono ?_
  rintro e' w1 ⟨v1, rfl, hR1⟩
  have HR1 := Lib.hid hR1
  clear hR1
  obtain ⟨si, hsi⟩ : ∃ si, si = s ++ [71] := ⟨_, rfl⟩
  have HSI := Lib.hid hsi
  have HSL := Lib.hid (show si.length = s.length + 1 by rw [hsi]; simp)
  clear hsi
  have hpart : ∀ (g c2 : Nat), s.length + 1 ≤ c2 → ∀ w, (Instr.slice 22 (.slice (some ⟨g, 0, none⟩) si.length c2) none (some (.int .i64 (s.length : Nat))) none).run Tryd.prog w = .ok (.slice (some ⟨g, 0, none⟩) s.length c2) w := fun g c2 h w => run_to g 0 si.length c2 s.length (by omega) w
  have HPART := Lib.hid hpart
  clear hpart
  go_wp2_with (at_builtin; go_must (refine append_by (HR1.out.on ((Below.refl _ _).alloc (Nat.le_refl _) _)) [71] _ 1 (bytes_lit (s := [71]) rfl) (fun e => by cases e) (by have := HM.out; simp only [List.length_cons, List.length_nil]; omega) rfl _ _ rfl rfl rfl ?_; rintro v2 w2 hR2; rw [← HSI.out] at hR2; obtain ⟨g2, c2, rfl, hg2, hg2', hl2, hm2⟩ := hR2.some (by have := HSL.out; omega); have hp2 := HPART.out g2 c2 (by have := HSL.out; omega); have HR2 := Lib.hid hR2; have HG2 := Lib.hid hg2'; have HL2 := Lib.hid hl2; have HM2 := Lib.hid hm2; clear hR2 hg2 hg2' hl2 hm2))
  have HB2 := Lib.hid HR2.out.1
  have HS2 : Hid (BytesAt w2 (some ⟨g2, 0, none⟩) si.length si) := by
    obtain ⟨A', c', e, h, -, -, -⟩ := HR2.out.at
    cases e
    exact h
  have HP2 : Hid (∀ w', Below w2.heap.size w2 w' → BytesAt w' (some ⟨g2, 0, none⟩) s.length s) := fun w' hb => by
    have := HS2.out.on hb
    rw [HSI.out] at this
    exact this.front
  have HPN := Lib.hid (PutNum_any (W := w2) (c := c2) n 2 (HP2.out w2 (Below.refl _ _)) (fun e => by cases e) HM.out HNB.out)
  rw [← HP0.out] at HPN
  clear hp2
  refine HPN.out.mono ?_
  rintro e' w3 ⟨v3, rfl, hR3⟩
  obtain ⟨A3, c3, rfl, -, hb3, -, -⟩ := hR3.at
  have HR3 := Lib.hid hR3
  have HA3 := Lib.hid hb3
  clear hR3 hb3
  have HSE := Lib.hid (fun w' hb => Seal_any (W := w') (c := c2) (HE.out.on (HB2.out.trans (Below.mono hb HB2.out.size))) kd (HP2.out w' hb) (fun e => by cases e))
  rw [← HE0.out, ← HQ0.out] at HSE
  go_wp2_with fail
  go_at_call 7
  refine (HSE.out w3 HR3.out.1).mono ?_
  rintro e' w4 ⟨v4, rfl, hR4⟩
  obtain ⟨A4, c4, rfl, -, hb4, -, -⟩ := hR4.at
  have HR4 := Lib.hid (hR4.up HR3.out.1)
  have HX4 := Lib.hid (HR3.out.on hR4.1)
  have HDI : Hid (∀ g, A3 = some ⟨g, 0, none⟩ → (Value.slice A4 Q0.length c4).ownBlock ≠ some g) := fun g e h => by
    have h1 := (HA3.out _ e).2
    cases A4 with
    | none => simp [Value.ownBlock] at h
    | some ad =>
      have h2 := (hb4 ad rfl).1
      simp only [Value.ownBlock, Option.some.injEq] at h
      simp only at h1
      omega
  clear hR4 hb4
  go_wp2_with fail
  go_loopw [12] (fun i wr => ∃ (j : Nat) (cs : List UInt8), i = .int .i64 j ∧ j ≤ P0.length ∧ cs.length = P0.length ∧ Hid (BRow w2 (.slice A3 P0.length c3) cs wr) ∧ Hid (BRow w2 (.slice A4 Q0.length c4) Q0 wr)) (fun i _ => P0.length - (RowKit.intOf i).toNat)
  case atStart => exact ⟨0, P0, rfl, by omega, rfl, HX4.out, HR4.out⟩
  case round =>
    obtain ⟨j, cs, rfl, hj, hcl, HC, HD⟩ := hrel
    by_cases hlt : j < P0.length
    · have hl1 : (j : Int) < (P0.length : Int) := by omega
      have hl0 : (0 : Int) ≤ (j : Int) := by omega
      have hjb : j ≤ 140737488355328 := by have := HPl.out; have := HM.out; omega
      have HC0 := HC.out
      rw [← hcl] at HC0
      obtain ⟨g3, c3', e3, hg3, -, -, -⟩ := HC0.some (by omega)
      cases e3
      have HG3 := Lib.hid hg3
      have hfz := HC0.2.frozenAt j
      obtain ⟨A', c', e, hY, -, -, -⟩ := HC0.at
      cases e
      obtain ⟨g', o', e, hcell⟩ := byte_at hY (show j < cs.length by omega)
      cases e
      rw [Nat.zero_add] at hcell
      have HC1 := Lib.hid (HC0.setd j 99)
      have HD1 := Lib.hid (HD.out.other hg3 (HDI.out g3 rfl) j (.int .u8 99))
      clear hY HC0 hg3
      go_wp2_with fail
      refine ⟨⟨j + 1, cs.set j 99, by go_num, by omega, by rw [List.length_set]; omega, ?_, HD1.out⟩, by simp [RowKit.intOf]; omega⟩
      have h := HC1.out
      rw [hcl] at h
      exact h
    · have hl1 : ¬ (j : Int) < (P0.length : Int) := by omega
      go_wp2_with fail
      go_loopw [13] (fun i wr => ∃ (j : Nat) (cs : List UInt8), i = .int .i64 j ∧ j ≤ Q0.length ∧ cs.length = Q0.length ∧ Hid (BRow w2 (.slice A4 Q0.length c4) cs wr)) (fun i _ => Q0.length - (RowKit.intOf i).toNat)
      case atStart => exact ⟨0, Q0, rfl, by omega, rfl, HD.out⟩
      case round =>
        obtain ⟨j, cs, rfl, hj, hcl, HC⟩ := hrel
        by_cases hlt : j < Q0.length
        · have hl1 : (j : Int) < (Q0.length : Int) := by omega
          have hl0 : (0 : Int) ≤ (j : Int) := by omega
          have hjb : j ≤ 512 := by have := HQl.out; omega
          have HC0 := HC.out
          rw [← hcl] at HC0
          obtain ⟨g3, c3', e3, hg3, -, -, -⟩ := HC0.some (by omega)
          cases e3
          have hfz := HC0.2.frozenAt j
          obtain ⟨A', c', e, hY, -, -, -⟩ := HC0.at
          cases e
          obtain ⟨g', o', e, hcell⟩ := byte_at hY (show j < cs.length by omega)
          cases e
          rw [Nat.zero_add] at hcell
          have HC1 := Lib.hid (HC0.setd j 98)
          clear hY HC0 hg3
          go_wp2_with fail
          refine ⟨⟨j + 1, cs.set j 98, by go_num, by omega, by rw [List.length_set]; omega, ?_⟩, by simp [RowKit.intOf]; omega⟩
          have h := HC1.out
          rw [hcl] at h
          exact h
        · have hl1 : ¬ (j : Int) < (Q0.length : Int) := by omega
          have HB5 := Lib.hid (HB2.out.trans (HC.out.1.mono HB2.out.size))
          go_wp2_with fail
          go_at_call 8
          refine (HA.out _ HB5.out).mono ?_
          rintro e' w6 ⟨rfl, hb6⟩
          have HG6 := Lib.hid (HC.out.1.trans (hb6.mono HC.out.1.size))
          have HB6 := Lib.hid (HB2.out.trans (HG6.out.mono HB2.out.size))
          have hs6 := HS2.out.on HG6.out
          obtain ⟨g', o', e, hcell⟩ := byte_at hs6 (show s.length < si.length by have := HSL.out; omega)
          cases e
          have hx : si[s.length]'(by have := HSL.out; omega) = 71 := by
            have h1 : si[s.length]? = some 71 := by rw [HSI.out, List.getElem?_append_right (Nat.le_refl _), Nat.sub_self]; rfl
            rw [List.getElem?_eq_getElem (by have := HSL.out; omega)] at h1
            injection h1
          rw [hx, Nat.zero_add, show (((71 : UInt8).toNat : Nat) : Int) = 71 from rfl] at hcell
          have hsl : (s.length : Int) < (si.length : Int) := by have := HSL.out; omega
          have hcv1 := conv_str (c := c2) (HP2.out _ HG6.out)
          have hcv2 := conv_str (c := c) (HY.out _ HB6.out)
          have HSC := Lib.hid (HSE.out _ HG6.out)
          clear hs6 hx hb6
          go_wp2_with fail
          go_at_call 7
          refine HSC.out.mono ?_
          rintro e' w7 ⟨v7, rfl, hR7⟩
          obtain ⟨A7, c7, rfl, hY7, -, -, -⟩ := hR7.at
          have HB7 := Lib.hid (HB6.out.trans (hR7.1.mono HB6.out.size))
          have HY7 := Lib.hid hY7
          clear hR7 hY7 hcv1 hcv2 hcell
          go_wp2_with fail
          go_at_call 9
          refine (HRS.out _ HB7.out).mono ?_
          rintro e' w8 ⟨v8, rfl, hR8⟩
          obtain ⟨A8, c8, rfl, hY8, -, -, -⟩ := hR8.at
          have HB8 := Lib.hid (HB7.out.trans (hR8.1.mono HB7.out.size))
          have hcv1 := conv_str (c := c7) (HY7.out.on hR8.1)
          have hcv2 := conv_str (c := c8) hY8
          clear hR8 hY8
          go_wp2_with fail
          go_ret
          exact ⟨rfl, HB8.out⟩
end Go.Proofs.YtdnfijhclikkfabDoor
