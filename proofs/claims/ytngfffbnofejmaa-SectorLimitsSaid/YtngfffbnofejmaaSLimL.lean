/- Law SectorLimits: the walk. -/
import Derived.Test.YtngfffbnofejmaaSGrw
namespace Go.Proofs.Ytngfffbnofejmaa
open Go.RowKit Go.Lib Go.ChangeMaps Go.MapKept

/-- A disk with a limit of k on which j writes and barriers were tried. -/
def Lim (k j : Nat) (st : DS) : Prop := st.sz = 8 ∧ st.log.length ≤ j ∧ (st.out = true ↔ 0 < k ∧ k ≤ j) ∧ (¬ st.out = true → st.left = k - j)
theorem lim_burn {k j : Nat} {st : DS} (h : Lim k j st) (ho : ¬ st.out = true) : ((burn st).out = true ↔ 0 < k ∧ k ≤ j + 1) ∧ (¬ (burn st).out = true → (burn st).left = k - (j + 1)) := by
  obtain ⟨h1, h2, h3, h4⟩ := h
  have h5 := h4 ho
  have h6 : ¬ (0 < k ∧ k ≤ j) := fun e => ho (h3.2 e)
  unfold burn
  split
  · rename_i h0
    exact ⟨⟨fun e => absurd e ho, fun e => by omega⟩, fun _ => by omega⟩
  · rename_i h0
    have ho' : st.out = false := eq_false_of_ne_true ho
    dsimp only
    rw [ho', Bool.false_or]
    by_cases h7 : st.left = 1
    · rw [decide_eq_true h7]
      exact ⟨⟨fun _ => by omega, fun _ => rfl⟩, fun e => absurd rfl e⟩
    · rw [decide_eq_false h7]
      exact ⟨⟨fun e => (by cases e), fun e => by omega⟩, fun _ => by omega⟩
theorem lim_write {k j i : Nat} {st : DS} {s : List UInt8} (h : Lim k j st) (hi : i < 8) (hs : s.length = 512) : ∃ b, Hid ((b = true ↔ 0 < k ∧ k ≤ j + 1) ∧ writeE st (i : Int) s = dn b ∧ (writeS st (i : Int) s).out = b ∧ Lim k (j + 1) (writeS st (i : Int) s)) := by
  by_cases ho : st.out = true
  · have e1 : writeS st (i : Int) s = st := if_pos ho
    have e2 : writeE st (i : Int) s = 15 := if_pos ho
    have h5 := h.2.2.1.1 ho
    refine ⟨true, Lib.hid ⟨⟨fun _ => by omega, fun _ => rfl⟩, e2, by rw [e1]; exact ho, by rw [e1]; exact ⟨h.1, by have := h.2.1; omega, ⟨fun _ => by omega, fun _ => ho⟩, fun e => absurd ho e⟩⟩⟩
  · have hb : ¬ (badAt st (i : Int) ∨ s.length ≠ 512) := fun e => e.elim (fun e => by have := h.1; unfold badAt at e; omega) (fun e => e hs)
    obtain ⟨q1, q2⟩ := lim_burn h ho
    have e2 : writeE st (i : Int) s = dn (burn st).out := (if_neg ho).trans (if_neg hb)
    refine ⟨(burn st).out, Lib.hid ⟨q1, e2, ?_, ?_⟩⟩
    · unfold writeS
      rw [if_neg ho, if_neg hb]
      split <;> rfl
    · have e1 : writeS st (i : Int) s = if (burn st).out = true then burn st else { burn st with log := st.log ++ [((i : Int).toNat, s)] } := (if_neg ho).trans (if_neg hb)
      rw [e1]
      split
      · exact ⟨(burn_log st).2.2.trans h.1, by rw [(burn_log st).1]; have := h.2.1; omega, q1, q2⟩
      · exact ⟨(burn_log st).2.2.trans h.1, by have := h.2.1; simp; omega, q1, q2⟩
theorem lim_barr {k j : Nat} {st : DS} (h : Lim k j st) : ∃ b, Hid ((b = true ↔ 0 < k ∧ k ≤ j + 1) ∧ barrE st = dn b ∧ (barrS st).out = b ∧ Lim k (j + 1) (barrS st)) := by
  by_cases ho : st.out = true
  · have e1 : barrS st = st := if_pos ho
    have e2 : barrE st = 15 := if_pos ho
    have h5 := h.2.2.1.1 ho
    refine ⟨true, Lib.hid ⟨⟨fun _ => by omega, fun _ => rfl⟩, e2, by rw [e1]; exact ho, by rw [e1]; exact ⟨h.1, by have := h.2.1; omega, ⟨fun _ => by omega, fun _ => ho⟩, fun e => absurd ho e⟩⟩⟩
  · obtain ⟨q1, q2⟩ := lim_burn h ho
    have e2 : barrE st = dn (burn st).out := if_neg ho
    have e1 : barrS st = if (burn st).out = true then burn st else { burn st with n := st.log.length } := if_neg ho
    refine ⟨(burn st).out, Lib.hid ⟨q1, e2, ?_, ?_⟩⟩
    · rw [e1]
      split <;> rfl
    · rw [e1]
      split
      · exact ⟨(burn_log st).2.2.trans h.1, by rw [(burn_log st).1]; have := h.2.1; omega, q1, q2⟩
      · exact ⟨(burn_log st).2.2.trans h.1, by show (burn st).log.length ≤ _; rw [(burn_log st).1]; have := h.2.1; omega, q1, q2⟩
/-- One disk of the call's own. -/
def Alone (W w' : World) (g : Nat) (P : DS → Prop) : Prop := Below W.heap.size W w' ∧ ∃ T st, (∀ k, T k → W.heap.size ≤ k) ∧ Dk w' T st g ∧ P st
theorem Alone.below {W W1 W2 : World} {g : Nat} {P : DS → Prop} (h : Alone W W1 g P) (hb : Below W1.heap.size W1 W2) : Alone W W2 g P := by
  obtain ⟨h0, T, st, h1, h2, h3⟩ := h
  exact ⟨h0.trans (hb.mono h0.size), T, st, h1, h2.grow hb (fun _ h => h) (h2.ter.on hb.size), h3⟩
theorem Alone.step {W W1 W2 : World} {g : Nat} {T : Nat → Prop} {st' : DS} {P : DS → Prop} (hb : Below W.heap.size W W1) (hT : ∀ k, T k → W.heap.size ≤ k) (hd : DkTo W1 W2 T st' g) (hp : P st') : Alone W W2 g P := by
  obtain ⟨f, T', e, h⟩ := hd
  exact ⟨f.below hb hb.size (fun k e => hT k e.1), T', st', fun k e2 => (e.2 k e2).elim (hT k) (fun e => by have := hb.size; omega), h, hp⟩
set_option maxRecDepth 10000 in
set_option maxHeartbeats 4000000 in
theorem limits_walk {W : World} (n : Nat) (hn : n ≤ 255) {A : Option Addr} {l : List Bool} {cap : Nat} (h : BoolsAt W A l) (hl : l.length ≤ 9223372036854775807) :
    Calls Try.prog 7 #[.int .u8 (n : Nat), .slice A l.length cap] W fun e w' => e = .returned (.bool true) ∧ Below W.heap.size W w' := by
  have HA := Lib.hid h
  have HLV := Lib.hid hl
  have HAN := Lib.hid answers_any
  have HNW := Lib.hid (New_good W 8 (by unfold newOk; omega))
  obtain ⟨k, hk⟩ : ∃ k, n % 30 = k := ⟨_, rfl⟩
  have e1 : ((n : Nat) : Int).tmod 30 = (k : Int) := by rw [Int.tmod_eq_emod_of_nonneg (by omega)]; omega
  have e2 : IntKind.u8.wrap (k : Int) = (k : Int) := by rw [IntKind.wrap_u8]; omega
  have e3 : IntKind.i64.wrap (k : Int) = (k : Int) := wrap_in (by omega) (by omega)
  have HK := Lib.hid (show k < 30 by omega)
  have HKN : Hid (¬ (k : Int) < 0) := Lib.hid (by omega)
  have e0 : (n : Int) % 30 = (k : Int) := by omega
  clear h hk hn
  go_enter Try.func7, Try.ntmps7
  go_upto_region 5 with (first | (go_at_call 8; refine HNW.out.mono ?_; rintro e' w0 ⟨g, T, rfl, hb, ht, hd⟩; have HB0 := Lib.hid hb; have HT0 := Lib.hid ht; have HD0 := Lib.hid hd; clear hb ht hd) | (go_at_call 9; refine (HAN.out w0).mono ?_; rintro e' w1 ⟨rfl, hb⟩; have HB1 := Lib.hid (HB0.out.trans (hb.mono HB0.out.size)); have HD1 := Lib.hid (HD0.out.grow hb (fun _ h => h) (HD0.out.ter.on hb.size)); clear hb))
  have HLM := Lib.hid (Limit_any HD1.out (k : Int) (by have := HK.out; omega))
  have hle : limE (k : Int) = 0 := if_neg (by have := HKN.out; omega)
  rw [hle] at HLM
  clear hle
  go_upto_region 7 with (go_at_call 23; refine HLM.out.mono ?_; rintro e' w2 ⟨rfl, hd⟩; have HD2 := Lib.hid hd; clear hd)
  have HG : Hid (Alone W w2 g (Lim k 0)) := Lib.hid (Alone.step HB1.out HT0.out HD2.out (by
    have e : limS ⟨8, [], 0, 0, false⟩ (k : Int) = ⟨8, [], 0, k, false⟩ := (if_neg (by have := HKN.out; omega)).trans (by rw [Int.toNat_natCast])
    rw [e]
    exact ⟨rfl, Nat.le_refl _, ⟨fun e => (by cases e), fun e => by omega⟩, fun _ => rfl⟩))
  have wk := wrap_in (n := (k : Int) - 1) (by omega) (by have := HK.out; omega)
  go_wp2_with fail
  go_loopg [8] 60 (fun m i wr => ∃ j : Nat, i = .int .i64 j ∧ j ≤ 60 ∧ j ≤ l.length ∧ m = 60 - j ∧ Hid (Alone W wr g (Lim k j)))
  case atStart => exact ⟨0, rfl, Nat.zero_le _, Nat.zero_le _, rfl, HG⟩
  case round =>
    obtain ⟨j, rfl, hj, hjl, rfl, HR⟩ := hrel
    have HJJ := Lib.hid hj
    by_cases h1 : j < l.length
    · have h1' : (j : Int) < (l.length : Int) := by omega
      have h0' : (0 : Int) ≤ (j : Int) := by omega
      by_cases h2 : j < 60
      · have h2' : (j : Int) < 60 := by omega
        have HLT := Lib.hid h2
        have HL1 := Lib.hid h1
        obtain ⟨hbw, T1, st, hT, hd, hp⟩ := HR.out
        obtain ⟨b, o, ea, hlt, hc⟩ := HA.out (by omega)
        have c0 := (hbw.cell (p := ⟨b, o + j, none⟩) hlt).trans (hc j h1)
        subst ea
        have HD := Lib.hid hd
        have HP := Lib.hid hp
        have HN5 := Lib.hid (show st.log.length ≤ 100000 by have := hp.2.1; omega)
        have HS0 : Hid (∀ w0 w3 st', Below wr.heap.size wr w0 → DkTo w0 w3 T1 st' g → Lim k (j + 1) st' → Alone W w3 g (Lim k (j + 1))) := Lib.hid fun w0 w3 st' h0 h h' => Alone.step (hbw.trans (h0.mono hbw.size)) hT h h'
        clear hbw hT hd hp hlt hc
        generalize l[j] = cj at *
        cases cj
        · obtain ⟨bq, HS⟩ := lim_barr HP.out
          have HBR := Lib.hid (Barrier_any HD.out HN5.out)
          rw [HS.out.2.1] at HBR
          go_upto_region 14 with (go_at_call 14; refine HBR.out.mono ?_; rintro e' w4 ⟨rfl, hd4⟩; have HD4 := Lib.hid hd4; have HAS := Lib.hid (fun (hl : Lim k (j + 1) (barrS st)) (_ : (barrS st).out = bq) => HS0.out wr w4 _ (Below.refl _ _) HD4.out hl); have HDW : Hid ((barrS st).out = bq → Calls Try.prog 19 #[.pointer (some ⟨g, 0, none⟩)] w4 fun e w' => e = .returned (.bool bq) ∧ w' = w4) := Lib.hid (fun e => by obtain ⟨-, T4, -, h4⟩ := HD4.out; rw [← e]; exact Down_any h4); clear hd4)
          have hbi := HS.out.1
          cases bq
          · rw [dn_f]
            have hnk : ¬ (0 < k ∧ k ≤ j + 1) := fun e => by have := hbi.2 e; cases this
            have HLP := HS.out.2.2.2
            have hbo := HS.out.2.2.1
            have HAL := Lib.hid (HAS.out HLP hbo)
            have HDN := Lib.hid (HDW.out hbo)
            clear hbi HLP hbo
            by_cases hk0 : (0 : Int) < (k : Int)
            · have hk1 : ¬ (k : Int) - 1 ≤ (j : Int) := by omega
              clear hnk
              go_wp2_with (go_at_call 19; refine HDN.out.mono ?_; rintro e' wz ⟨rfl, hwz⟩; have hwz := hwz.symm; subst hwz)
              go_roundg (60 - (j + 1))
              case measure => have := HLT.out; omega
              case rel => exact ⟨j + 1, by go_num, by have := HLT.out; omega, by have := HL1.out; omega, rfl, HAL⟩
            · clear hnk
              go_wp2_with (go_at_call 19; refine HDN.out.mono ?_; rintro e' wz ⟨rfl, hwz⟩; have hwz := hwz.symm; subst hwz)
              go_roundg (60 - (j + 1))
              case measure => have := HLT.out; omega
              case rel => exact ⟨j + 1, by go_num, by have := HLT.out; omega, by have := HL1.out; omega, rfl, HAL⟩
          · rw [dn_t]
            have hk2 := hbi.1 rfl
            have HLP := HS.out.2.2.2
            have hbo := HS.out.2.2.1
            have HAL := Lib.hid (HAS.out HLP hbo)
            have HDN := Lib.hid (HDW.out hbo)
            have hk0 : (0 : Int) < (k : Int) := by omega
            have hk1 : (k : Int) - 1 ≤ (j : Int) := by omega
            clear hbi HLP hbo hk2
            go_wp2_with (go_at_call 19; refine HDN.out.mono ?_; rintro e' wz ⟨rfl, hwz⟩; have hwz := hwz.symm; subst hwz)
            go_roundg (60 - (j + 1))
            case measure => have := HLT.out; omega
            case rel => exact ⟨j + 1, by go_num, by have := HLT.out; omega, by have := HL1.out; omega, rfl, HAL⟩
        · have ewr : IntKind.u8.wrap (j : Int) = (j : Int) := by rw [IntKind.wrap_u8]; omega
          have erm : (j : Int).tmod 8 = ((j % 8 : Nat) : Int) := by rw [Int.tmod_eq_emod_of_nonneg (by omega)]; omega
          have erw : IntKind.i64.wrap ((j % 8 : Nat) : Int) = ((j % 8 : Nat) : Int) := wrap_in (by omega) (by omega)
          obtain ⟨dd, hdd⟩ : ∃ dd, Hid (dd = dataL (UInt8.ofNat j) false) := ⟨_, Lib.hid rfl⟩
          have HDL : Hid (dd.length = 512) := Lib.hid (by rw [hdd.out, dataL_len]; rfl)
          have hdat : Calls Try.prog 21 #[.int .u8 (j : Nat), .bool false] wr fun e w' => ∃ v, e = .returned v ∧ BRow wr v dd w' := by
            have h := data_any wr (UInt8.ofNat j) false
            rw [UInt8.toNat_ofNat', Nat.mod_eq_of_lt (by omega)] at h
            rw [hdd.out]
            exact h
          have HDAT := Lib.hid hdat
          obtain ⟨bq, HS⟩ := lim_write HP.out (show j % 8 < 8 by omega) HDL.out
          have HW0 : Hid (∀ w2 v, BRow wr v dd w2 → Calls Try.prog 22 #[.pointer (some ⟨g, 0, none⟩), .int .i64 ((j % 8 : Nat) : Int), v] w2 fun e w' => e = .returned (.int .i64 (dn bq)) ∧ DkTo w2 w' T1 (writeS st ((j % 8 : Nat) : Int) dd) g) := by
            refine Lib.hid fun w2 v hv => ?_
            obtain ⟨A, c, rfl, hb, hk⟩ := row_arg hv
            have h := Write_any (c := c) (HD.out.grow hv.1 (fun _ h => h) (HD.out.ter.on hv.1.size)) HN5.out ((j % 8 : Nat) : Int) hb (fun ad e => ⟨(hk ad e).2, fun e2 => by have := HD.out.ter _ e2; have := (hk ad e).1; omega⟩)
            rw [HS.out.2.1] at h
            exact h
          clear hdat
          go_upto_region 14 with (first | (go_at_call 21; refine HDAT.out.mono ?_; rintro e' w3 ⟨v3, rfl, hv3⟩; have HV3 := Lib.hid hv3.1; have HWR := Lib.hid (HW0.out w3 v3 hv3); clear hv3) | (go_at_call 22; refine HWR.out.mono ?_; rintro e' w4 ⟨rfl, hd4⟩; have HD4 := Lib.hid hd4; have HAS := Lib.hid (fun (hl : Lim k (j + 1) (writeS st ((j % 8 : Nat) : Int) dd)) (_ : (writeS st ((j % 8 : Nat) : Int) dd).out = bq) => HS0.out w3 w4 _ HV3.out HD4.out hl); have HDW : Hid ((writeS st ((j % 8 : Nat) : Int) dd).out = bq → Calls Try.prog 19 #[.pointer (some ⟨g, 0, none⟩)] w4 fun e w' => e = .returned (.bool bq) ∧ w' = w4) := Lib.hid (fun e => by obtain ⟨-, T4, -, h4⟩ := HD4.out; rw [← e]; exact Down_any h4); clear hd4))
          have hbi := HS.out.1
          cases bq
          · rw [dn_f]
            have hnk : ¬ (0 < k ∧ k ≤ j + 1) := fun e => by have := hbi.2 e; cases this
            have HLP := HS.out.2.2.2
            have hbo := HS.out.2.2.1
            have HAL := Lib.hid (HAS.out HLP hbo)
            have HDN := Lib.hid (HDW.out hbo)
            clear hbi HLP hbo
            by_cases hk0 : (0 : Int) < (k : Int)
            · have hk1 : ¬ (k : Int) - 1 ≤ (j : Int) := by omega
              clear hnk
              go_wp2_with (go_at_call 19; refine HDN.out.mono ?_; rintro e' wz ⟨rfl, hwz⟩; have hwz := hwz.symm; subst hwz)
              go_roundg (60 - (j + 1))
              case measure => have := HLT.out; omega
              case rel => exact ⟨j + 1, by go_num, by have := HLT.out; omega, by have := HL1.out; omega, rfl, HAL⟩
            · clear hnk
              go_wp2_with (go_at_call 19; refine HDN.out.mono ?_; rintro e' wz ⟨rfl, hwz⟩; have hwz := hwz.symm; subst hwz)
              go_roundg (60 - (j + 1))
              case measure => have := HLT.out; omega
              case rel => exact ⟨j + 1, by go_num, by have := HLT.out; omega, by have := HL1.out; omega, rfl, HAL⟩
          · rw [dn_t]
            have hk2 := hbi.1 rfl
            have HLP := HS.out.2.2.2
            have hbo := HS.out.2.2.1
            have HAL := Lib.hid (HAS.out HLP hbo)
            have HDN := Lib.hid (HDW.out hbo)
            have hk0 : (0 : Int) < (k : Int) := by omega
            have hk1 : (k : Int) - 1 ≤ (j : Int) := by omega
            clear hbi HLP hbo hk2
            go_wp2_with (go_at_call 19; refine HDN.out.mono ?_; rintro e' wz ⟨rfl, hwz⟩; have hwz := hwz.symm; subst hwz)
            go_roundg (60 - (j + 1))
            case measure => have := HLT.out; omega
            case rel => exact ⟨j + 1, by go_num, by have := HLT.out; omega, by have := HL1.out; omega, rfl, HAL⟩
      · have h2' : ¬ (j : Int) < 60 := by omega
        obtain ⟨hbw, T1, st, hT, hd, hp⟩ := HR.out
        have HN5 : st.log.length ≤ 100000 := by have := hp.2.1; omega
        have HCR : Hid (Calls Try.prog 17 #[.pointer (some ⟨g, 0, none⟩), .int .u64 0] wr fun e w' => e = .returned (.int .i64 0) ∧ DkTo wr w' T1 (crashS st 0) g) := Lib.hid (Crash_any hd HN5 0 (by decide))
        have hcl : (crashS st 0).log.length ≤ 100000 := by
          show (st.sure ++ keepM 0 0 st.un).length ≤ _
          rw [List.length_append]
          have h1 := keepM_le 0 st.un 0
          have h2 : st.sure.length + st.un.length = st.log.length := by
            rw [← List.length_append, show st.sure ++ st.un = st.log from List.take_append_drop ..]
          omega
        have HCL := Lib.hid hcl
        have HBW := Lib.hid hbw
        have HTT := Lib.hid hT
        clear hbw hT hd hp HN5 hcl
        go_wp2_with (first | (go_at_call 17; refine HCR.out.mono ?_; rintro e' w5 ⟨rfl, hd5⟩; obtain ⟨hf5, T5, he5, hh5⟩ := hd5; have HF5 := Lib.hid hf5; have HE5 := Lib.hid he5; have HD5 := Lib.hid hh5; have HDN : Hid (Calls Try.prog 19 #[.pointer (some ⟨g, 0, none⟩)] w5 fun e w' => e = .returned (.bool false) ∧ w' = w5) := Lib.hid (Down_any HD5.out); have HBR : Hid (Calls Try.prog 14 #[.pointer (some ⟨g, 0, none⟩)] w5 fun e w' => e = .returned (.int .i64 0) ∧ DkTo w5 w' T5 (barrS (crashS st 0)) g) := Lib.hid (Barrier_any HD5.out HCL.out); clear hf5 he5 hh5) | (go_at_call 19; refine HDN.out.mono ?_; rintro e' wz ⟨rfl, hwz⟩; have hwz := hwz.symm; subst hwz) | (go_at_call 14; refine HBR.out.mono ?_; rintro e' w6 ⟨rfl, hd6⟩; have HD6 := Lib.hid hd6; clear hd6))
        go_ret
        refine ⟨rfl, ?_⟩
        have h5 := HF5.out.below HBW.out HBW.out.size (fun k e => HTT.out k e.1)
        exact HD6.out.1.below h5 h5.size (fun k e => (HE5.out.2 k e.1).elim (HTT.out k) (fun e => by have := HBW.out.size; omega))
    · have h1' : ¬ (j : Int) < (l.length : Int) := by omega
      obtain ⟨hbw, T1, st, hT, hd, hp⟩ := HR.out
      have HN5 : st.log.length ≤ 100000 := by have := hp.2.1; omega
      have HCR : Hid (Calls Try.prog 17 #[.pointer (some ⟨g, 0, none⟩), .int .u64 0] wr fun e w' => e = .returned (.int .i64 0) ∧ DkTo wr w' T1 (crashS st 0) g) := Lib.hid (Crash_any hd HN5 0 (by decide))
      have hcl : (crashS st 0).log.length ≤ 100000 := by
        show (st.sure ++ keepM 0 0 st.un).length ≤ _
        rw [List.length_append]
        have h1 := keepM_le 0 st.un 0
        have h2 : st.sure.length + st.un.length = st.log.length := by
          rw [← List.length_append, show st.sure ++ st.un = st.log from List.take_append_drop ..]
        omega
      have HCL := Lib.hid hcl
      have HBW := Lib.hid hbw
      have HTT := Lib.hid hT
      clear hbw hT hd hp HN5 hcl
      go_wp2_with (first | (go_at_call 17; refine HCR.out.mono ?_; rintro e' w5 ⟨rfl, hd5⟩; obtain ⟨hf5, T5, he5, hh5⟩ := hd5; have HF5 := Lib.hid hf5; have HE5 := Lib.hid he5; have HD5 := Lib.hid hh5; have HDN : Hid (Calls Try.prog 19 #[.pointer (some ⟨g, 0, none⟩)] w5 fun e w' => e = .returned (.bool false) ∧ w' = w5) := Lib.hid (Down_any HD5.out); have HBR : Hid (Calls Try.prog 14 #[.pointer (some ⟨g, 0, none⟩)] w5 fun e w' => e = .returned (.int .i64 0) ∧ DkTo w5 w' T5 (barrS (crashS st 0)) g) := Lib.hid (Barrier_any HD5.out HCL.out); clear hf5 he5 hh5) | (go_at_call 19; refine HDN.out.mono ?_; rintro e' wz ⟨rfl, hwz⟩; have hwz := hwz.symm; subst hwz) | (go_at_call 14; refine HBR.out.mono ?_; rintro e' w6 ⟨rfl, hd6⟩; have HD6 := Lib.hid hd6; clear hd6))
      go_ret
      refine ⟨rfl, ?_⟩
      have h5 := HF5.out.below HBW.out HBW.out.size (fun k e => HTT.out k e.1)
      exact HD6.out.1.below h5 h5.size (fun k e => (HE5.out.2 k e.1).elim (HTT.out k) (fun e => by have := HBW.out.size; omega))
end Go.Proofs.Ytngfffbnofejmaa
