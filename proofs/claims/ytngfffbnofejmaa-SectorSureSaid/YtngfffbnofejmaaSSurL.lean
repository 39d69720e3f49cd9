/- Law SectorSure: the walk. -/
import Derived.Test.YtngfffbnofejmaaSSur
namespace Go.Proofs.Ytngfffbnofejmaa
open Go.RowKit Go.Lib Go.ChangeMaps Go.MapKept
set_option maxRecDepth 10000 in
set_option maxHeartbeats 8000000 in
theorem sure_walk {W : World} {A : Option Addr} {l : List AV} {cap : Nat} (h : ActsAt W A l) (hl : l.length ≤ 9223372036854775807) {A2 : Option Addr} {l2 : List AV} {cap2 : Nat} (h2 : ActsAt W A2 l2) (hl2 : l2.length ≤ 9223372036854775807) (mask : Nat) (hm : mask < 18446744073709551616) (wh : Nat) (hw : wh < 256) :
    Calls Try.prog 4 #[.slice A l.length cap, .slice A2 l2.length cap2, .int .u64 (mask : Nat), .int .u8 (wh : Nat)] W fun e w' => e = .returned (.bool true) ∧ Below W.heap.size W w' := by
  have HGR := Lib.hid (grown_any (cap := cap) h hl)
  have HAN := Lib.hid answers_any
  have HM := Lib.hid hm
  have HA2 := Lib.hid h2
  have HL2 := Lib.hid hl2
  clear h hl hm h2 hl2
  go_enter Try.func4, Try.ntmps4
  go_upto_region 2 with (go_at_call 13; refine HGR.out.mono ?_; rintro e' w0 ⟨g, r, rfl, hg⟩; have HG0 := Lib.hid hg; clear hg)
  obtain ⟨hb0, T, R, st, hT, hR, hbt, hll, hsz⟩ := HG0.out
  obtain ⟨vr, Ur, hr⟩ := hbt.w
  have c3 := hr.c3
  have c4 := hr.c4
  have HRB := Lib.hid (blk_lt hr.blk)
  have HBT := Lib.hid hbt
  have HB0 := Lib.hid hb0
  have HT := Lib.hid hT
  have HR := Lib.hid hR
  have HLL := Lib.hid hll
  have HSZ := Lib.hid hsz
  clear hb0 hT hR hbt hll hsz hr
  by_cases hot : st.out = true
  · rw [hot] at c4
    clear hot
    go_wp2_with (go_at_call 9; refine (HAN.out _).mono ?_; rintro e' wn ⟨rfl, hb⟩; replace c3 := (hb.cell (p := ⟨r, 3, none⟩) HRB.out).trans c3; replace c4 := (hb.cell (p := ⟨r, 4, none⟩) HRB.out).trans c4; replace HRB := Lib.hid (Nat.lt_of_lt_of_le HRB.out hb.size); replace HBT := Lib.hid (HBT.out.grow hb); replace HB0 := Lib.hid (HB0.out.trans (hb.mono HB0.out.size)); clear hb)
    go_ret
    exact ⟨rfl, HB0.out⟩
  · have ho : st.out = false := eq_false_of_ne_true hot
    rw [ho] at c4
    have HO := Lib.hid ho
    clear hot ho
    by_cases hz : 0 < st.left
    · have hz1 : (0 : Int) < (st.left : Int) := by omega
      go_wp2_with (go_at_call 9; refine (HAN.out _).mono ?_; rintro e' wn ⟨rfl, hb⟩; replace c3 := (hb.cell (p := ⟨r, 3, none⟩) HRB.out).trans c3; replace c4 := (hb.cell (p := ⟨r, 4, none⟩) HRB.out).trans c4; replace HRB := Lib.hid (Nat.lt_of_lt_of_le HRB.out hb.size); replace HBT := Lib.hid (HBT.out.grow hb); replace HB0 := Lib.hid (HB0.out.trans (hb.mono HB0.out.size)); clear hb)
      go_ret
      exact ⟨rfl, HB0.out⟩
    · have hz1 : st.left = 0 := by omega
      have HZ := Lib.hid hz1
      rw [hz1] at c3
      have c3' : w0.cell? ⟨r, 3, none⟩ = some (.int .i64 0) := c3
      clear c3 hz hz1
      have c3 := c3'
      clear c3'
      go_upto_region 4 with (go_at_call 9; refine (HAN.out _).mono ?_; rintro e' wn ⟨rfl, hb⟩; replace c3 := (hb.cell (p := ⟨r, 3, none⟩) HRB.out).trans c3; replace c4 := (hb.cell (p := ⟨r, 4, none⟩) HRB.out).trans c4; replace HRB := Lib.hid (Nat.lt_of_lt_of_le HRB.out hb.size); replace HBT := Lib.hid (HBT.out.grow hb); replace HB0 := Lib.hid (HB0.out.trans (hb.mono HB0.out.size)); clear hb)
      obtain ⟨f, hf⟩ : ∃ f : Nat → List UInt8, Hid (∀ k, nowL st.log k = f k) := ⟨_, Lib.hid fun _ => rfl⟩
      obtain ⟨hmk, hb6, hx6⟩ := made_six wn f
      have HI0 : Hid (SI W (wn.alloc (.cells (madeCells #[.string ByteArray.empty] 6) 9)) st st g r wn.heap.size f 0) := Lib.hid ⟨T, R, HB0.out.trans (hb6.mono HB0.out.size), HT.out, HR.out, HBT.out.grow hb6, fun e => Nat.lt_irrefl _ (HBT.out.d.ter _ e), fun e => Nat.lt_irrefl _ (HBT.out.w.ter _ e), HB0.out.size, hx6⟩
      clear hb6 hx6 c3 c4
      go_upto_region 5 with (fail)
      obtain ⟨w1, E1⟩ : ∃ u, wn.alloc (.cells (madeCells #[.string ByteArray.empty] 6) 9) = u := ⟨_, rfl⟩
      rw [E1] at HI0
      try rw [E1]
      obtain ⟨bb, hbb⟩ : ∃ gb, wn.heap.size = gb := ⟨_, rfl⟩
      rw [hbb] at HI0
      try rw [hbb]
      clear hmk E1 hbb
      rcases (show wh % 3 = 0 ∨ wh % 3 = 1 ∨ wh % 3 = 2 by omega) with hq | hq | hq
      · have e1 : ((wh : Nat) : Int).tmod 3 = 0 := by rw [Int.tmod_eq_emod_of_nonneg (by omega)]; omega
        have e2 : ((wh : Nat) : Int) % 3 = 0 := by omega
        have e3 : IntKind.u8.wrap 0 = 0 := by rfl
        clear hq
        have HBR := Lib.hid (HI0.out.barrier (by have := HLL.out; omega) HO.out HZ.out)
        obtain ⟨st1, hst1⟩ : ∃ x, ({ st with n := st.log.length } : DS) = x := ⟨_, rfl⟩
        have HS1 : Hid (st1.out = false ∧ st1.sz = 6 ∧ ∀ k, nowL st1.log k = f k) := Lib.hid (by rw [← hst1]; exact ⟨HO.out, HSZ.out, hf.out⟩)
        have HSU0 : Hid (∀ k, nowL (crashS st1 mask).log k = f k) := Lib.hid fun k => by rw [← hst1, crash_barr]; exact hf.out k
        have HL1 : Hid (st1.log.length ≤ 100) := Lib.hid (by rw [← hst1]; exact HLL.out)
        rw [hst1] at HBR
        clear hst1
        go_upto_region 7 with (go_at_call 14; refine HBR.out.mono ?_; rintro e' w2 ⟨rfl, hi1⟩; have HI1 := Lib.hid hi1; clear hi1)
        obtain ⟨sr1, hsr1⟩ : ∃ x, st = x := ⟨_, rfl⟩
        rw [hsr1] at HI1
        clear hsr1
        go_wp2_with fail
        go_loopg [12] 6 (fun m i wr => ∃ k : Nat, i = .int .i64 k ∧ k ≤ 6 ∧ m = 6 - k ∧ Hid (SI W wr st1 sr1 g r bb f k))
        case atStart => exact ⟨0, rfl, Nat.zero_le _, rfl, HI1⟩
        case round =>
          obtain ⟨k, rfl, hk, rfl, HI⟩ := hrel
          by_cases hlt : k < 6
          · have hl1 : (k : Int) < 6 := by omega
            have hl0 : (0 : Int) ≤ (k : Int) := by omega
            have HKK := Lib.hid hlt
            have HRD := Lib.hid (HI.out.read HS1.out.1 hlt HS1.out.2.1)
            obtain ⟨s, hs⟩ : ∃ s : ByteArray, Hid (s = ⟨(f k).toArray⟩) := ⟨_, Lib.hid rfl⟩
            have HFK : Hid (nowL st1.log k = f k) := Lib.hid (HS1.out.2.2 k)
            have HFR : Hid (∀ w4, SI W w4 st1 sr1 g r bb f k → (∃ x, w4.cell? ⟨bb, k, none⟩ = some x) ∧ w4.frozen? ⟨bb, k, none⟩ = false) := Lib.hid fun w4 ⟨T, R, h⟩ => h.six.free HKK.out
            clear hlt hk
            go_wp2_with (go_at_call 16; refine HRD.out.mono ?_; rintro e' w4 ⟨v4, rfl, hv4, hs4⟩; have HS4 := Lib.hid hs4; rw [HFK.out] at hv4; have hc4 := conv_row hv4; rw [← hs.out] at hc4; obtain ⟨⟨x4, kc4⟩, kf4⟩ := HFR.out _ hs4; clear hv4 hs4)
            go_roundg (6 - (k + 1))
            case measure => have := HKK.out; omega
            case rel => exact ⟨k + 1, by go_num, by have := HKK.out; omega, rfl, Lib.hid (by rw [hs.out]; exact HS4.out.set HKK.out)⟩
          · have hl1 : ¬ (k : Int) < 6 := by omega
            have hk6 : k = 6 := by omega
            have HI6 : Hid (SI W wr st1 sr1 g r bb f 6) := Lib.hid (hk6 ▸ HI.out)
            clear hk6 hlt
            replace HI := HI6
            clear HI6
            have HCR := Lib.hid (HI.out.crash (by have := HL1.out; omega) mask HM.out)
            obtain ⟨su0, hsu⟩ : ∃ x, crashS st1 mask = x := ⟨_, rfl⟩
            have HSU : Hid (su0.out = false ∧ su0.sz = 6 ∧ ∀ k, nowL su0.log k = f k) := Lib.hid (by rw [← hsu]; exact ⟨rfl, HS1.out.2.1, HSU0.out⟩)
            have HLU : Hid (su0.log.length ≤ 50000 ∧ su0.un = []) := Lib.hid (by rw [← hsu]; exact ⟨Nat.le_trans (crash_len _ _) (by have := HL1.out; omega), crash_un _ _⟩)
            rw [hsu] at HCR
            clear hsu 
            go_wp2_with (go_at_call 17; refine HCR.out.mono ?_; rintro e' w5 ⟨rfl, hs5⟩; have HS5 := Lib.hid hs5; clear hs5)
            go_loopg [16] 6 (fun m i wr => ∃ k : Nat, i = .int .i64 k ∧ k ≤ 6 ∧ m = 6 - k ∧ Hid (SI W wr su0 sr1 g r bb f 6))
            case atStart => exact ⟨0, rfl, Nat.zero_le _, rfl, HS5⟩
            case round =>
              obtain ⟨k, rfl, hk, rfl, HI⟩ := hrel
              by_cases hlt : k < 6
              · have hl1 : (k : Int) < 6 := by omega
                have hl0 : (0 : Int) ≤ (k : Int) := by omega
                have HKK := Lib.hid hlt
                have HRD := Lib.hid (HI.out.read HSU.out.1 hlt HSU.out.2.1)
                obtain ⟨s, hs⟩ : ∃ s : ByteArray, Hid (s = ⟨(f k).toArray⟩) := ⟨_, Lib.hid rfl⟩
                have HFK : Hid (nowL su0.log k = f k) := Lib.hid (HSU.out.2.2 k)
                clear hlt hk
                go_upto_region 32 with (go_at_call 16; refine HRD.out.mono ?_; rintro e' w4 ⟨v4, rfl, hv4, hs4⟩; have HV4 := Lib.hid hv4; have HS4 := Lib.hid (hs4.grow ((Below.refl _ w4).drew)); clear hv4 hs4)
                have hv5 := HV4.out.on ((Below.refl _ w4).drew)
                rw [HFK.out] at hv5
                have hc5 := conv_row hv5
                rw [← hs.out] at hc5
                obtain ⟨T5, R5, h5⟩ := HS4.out
                have hk5 := h5.six.cell (j := k) HKK.out
                rw [← hs.out] at hk5
                obtain ⟨u5, hu5⟩ : ∃ v, w4.drew = v := ⟨_, rfl⟩
                rw [hu5] at hc5 hk5 HS4
                have HC5 := Lib.hid (And.intro hc5 hk5)
                clear hv5 hc5 hk5 h5
                refine wp_region_held_drew (S := fun W => (convert 43 9 v4).run Try.prog W = .ok (.string s) W ∧ W.cell? ⟨bb, k, none⟩ = some (.string s)) (by kernel_rfl) ?_ (fun hHeld => ?_)
                · (try dsimp only)
                  rw [hu5]
                  exact HC5.out
                rw [hu5] at hHeld ⊢
                clear hu5
                refine takeSome (i := 0) (v := ?_) (by decide +kernel) rfl (by rfl) (by decide +kernel) (by decide +kernel) (fun _ _ _ h => h) (by assumption) ?_ ?_
                rotate_left
                focus (intro w0 hSw; (try dsimp only at hSw); go_simp; (try (with_reducible rfl)); done)
                (try simp only [Act.put, List.getElem_toArray, List.getElem_cons_zero, List.setIfInBounds_toArray, List.set_cons_zero, List.set_cons_succ])
                refine takeSome (i := 1) (v := ?_) (by decide +kernel) rfl (by rfl) (by decide +kernel) (by decide +kernel) (fun _ _ _ h => h) (by assumption) ?_ ?_
                rotate_left
                focus (intro w0 hSw; (try dsimp only at hSw); go_simp; (try (with_reducible rfl)); done)
                (try simp only [Act.put, List.getElem_toArray, List.getElem_cons_zero, List.getElem_cons_succ, List.setIfInBounds_toArray, List.set_cons_zero, List.set_cons_succ])
                refine takeSome (i := 2) (v := ?_) (by decide +kernel) rfl (by rfl) (by decide +kernel) (by decide +kernel) (fun _ _ _ h => h) (by assumption) ?_ ?_
                rotate_left
                focus (intro w0 hSw; (try dsimp only at hSw); go_simp; (try (with_reducible rfl)); done)
                (try simp only [Act.put, List.getElem_toArray, List.getElem_cons_zero, List.getElem_cons_succ, List.setIfInBounds_toArray, List.set_cons_zero, List.set_cons_succ])
                refine takeSome (i := 3) (v := ?_) (by decide +kernel) rfl (by rfl) (by decide +kernel) (by decide +kernel) (fun _ _ _ h => h) (by assumption) ?_ ?_
                rotate_left
                focus (intro w0 hSw; (try dsimp only at hSw); go_simp; (try (with_reducible rfl)); done)
                (try simp only [Act.put, List.getElem_toArray, List.getElem_cons_zero, List.getElem_cons_succ, List.setIfInBounds_toArray, List.set_cons_zero, List.set_cons_succ])
                refine takeSome (i := 4) (v := ?_) (by decide +kernel) rfl (by rfl) (by decide +kernel) (by decide +kernel) (fun _ _ _ h => h) (by assumption) ?_ ?_
                rotate_left
                focus (intro w0 hSw; (try dsimp only at hSw); go_simp; (try (with_reducible rfl)); done)
                (try simp only [Act.put, List.getElem_toArray, List.getElem_cons_zero, List.getElem_cons_succ, List.setIfInBounds_toArray, List.set_cons_zero, List.set_cons_succ])
                refine takeSome (i := 5) (v := ?_) (by decide +kernel) rfl (by rfl) (by decide +kernel) (by decide +kernel) (fun _ _ _ h => h) (by assumption) ?_ ?_
                rotate_left
                focus (intro w0 hSw; (try dsimp only at hSw); go_simp; (try (with_reducible rfl)); done)
                (try simp only [Act.put, List.getElem_toArray, List.getElem_cons_zero, List.getElem_cons_succ, List.setIfInBounds_toArray, List.set_cons_zero, List.set_cons_succ])
                refine takeSome (i := 6) (v := ?_) (by decide +kernel) rfl (by rfl) (by decide +kernel) (by decide +kernel) (fun _ _ _ h => h) (by assumption) ?_ ?_
                rotate_left
                focus (intro w0 hSw; (try dsimp only at hSw); go_simp; (try (with_reducible rfl)); done)
                (try simp only [Act.put, List.getElem_toArray, List.getElem_cons_zero, List.getElem_cons_succ, List.setIfInBounds_toArray, List.set_cons_zero, List.set_cons_succ])
                refine takeSome (i := 7) (v := ?_) (by decide +kernel) rfl (by rfl) (by decide +kernel) (by decide +kernel) (fun _ _ _ h => h) (by assumption) ?_ ?_
                rotate_left
                focus (intro w0 hSw; (try dsimp only at hSw); go_simp; (try (with_reducible rfl)); done)
                (try simp only [Act.put, List.getElem_toArray, List.getElem_cons_zero, List.getElem_cons_succ, List.setIfInBounds_toArray, List.set_cons_zero, List.set_cons_succ])
                refine takeSome (i := 8) (v := ?_) (by decide +kernel) rfl (by rfl) (by decide +kernel) (by decide +kernel) (fun _ _ _ h => h) (by assumption) ?_ ?_
                rotate_left
                focus (intro w0 hSw; (try dsimp only at hSw); go_simp; (try (with_reducible rfl)); done)
                (try simp only [Act.put, List.getElem_toArray, List.getElem_cons_zero, List.getElem_cons_succ, List.setIfInBounds_toArray, List.set_cons_zero, List.set_cons_succ])
                refine takeSome (i := 9) (v := ?_) (by decide +kernel) rfl (by rfl) (by decide +kernel) (by decide +kernel) (fun _ _ _ h => h) (by assumption) ?_ ?_
                rotate_left
                focus (intro w0 hSw; (try dsimp only at hSw); go_simp; (try (with_reducible rfl)); done)
                (try simp only [Act.put, List.getElem_toArray, List.getElem_cons_zero, List.getElem_cons_succ, List.setIfInBounds_toArray, List.set_cons_zero, List.set_cons_succ])
                refine takeSome (i := 10) (v := ?_) (by decide +kernel) rfl (by rfl) (by decide +kernel) (by decide +kernel) (fun _ _ _ h => h) (by assumption) ?_ ?_
                rotate_left
                focus (intro w0 hSw; (try dsimp only at hSw); go_simp; (try (with_reducible rfl)); done)
                (try simp only [Act.put, List.getElem_toArray, List.getElem_cons_zero, List.getElem_cons_succ, List.setIfInBounds_toArray, List.set_cons_zero, List.set_cons_succ])
                refine wpAnyH_done (by decide +kernel) ?_ _
                clear hHeld
                go_wp2_with fail
                go_roundg (6 - (k + 1))
                case measure => have := HKK.out; omega
                case rel => exact ⟨k + 1, by go_num, by have := HKK.out; omega, rfl, HS4⟩
              · have hl1 : ¬ (k : Int) < 6 := by omega
                have HUN := Lib.hid (HI.out.unsure HLU.out.1 HLU.out.2)
                go_wp2_with (go_at_call 18; refine HUN.out.mono ?_; rintro e' w6 ⟨A6, c6, rfl, hb6⟩; have HB6 := Lib.hid hb6; clear hb6)
                go_ret
                exact ⟨rfl, HB6.out⟩
      · have e1 : ((wh : Nat) : Int).tmod 3 = 1 := by rw [Int.tmod_eq_emod_of_nonneg (by omega)]; omega
        have e2 : ((wh : Nat) : Int) % 3 = 1 := by omega
        have e3 : IntKind.u8.wrap 1 = 1 := by rfl
        clear hq
        obtain ⟨st1, hst1⟩ : ∃ x, st = x := ⟨_, rfl⟩
        have HS1 : Hid (st1.out = false ∧ st1.sz = 6 ∧ ∀ k, nowL st1.log k = f k) := Lib.hid (by rw [← hst1]; exact ⟨HO.out, HSZ.out, hf.out⟩)
        have HSU0 : Hid (∀ k, nowL (crashS st1 18446744073709551615).log k = f k) := Lib.hid fun k => by rw [← hst1, crash_all]; exact hf.out k
        have HL1 : Hid (st1.log.length ≤ 100) := Lib.hid (by rw [← hst1]; exact HLL.out)
        have HI1 := HI0
        rw [hst1] at HI1
        obtain ⟨sr1, hsr1⟩ : ∃ x, st1 = x := ⟨_, rfl⟩
        have HI2 : Hid (SI W w1 st1 sr1 g r bb f 0) := Lib.hid (hsr1 ▸ HI1.out)
        clear hst1 hsr1 HI1
        have HI1 := HI2
        clear HI2
        go_upto_region 7 with (fail)
        go_wp2_with fail
        go_loopg [12] 6 (fun m i wr => ∃ k : Nat, i = .int .i64 k ∧ k ≤ 6 ∧ m = 6 - k ∧ Hid (SI W wr st1 sr1 g r bb f k))
        case atStart => exact ⟨0, rfl, Nat.zero_le _, rfl, HI1⟩
        case round =>
          obtain ⟨k, rfl, hk, rfl, HI⟩ := hrel
          by_cases hlt : k < 6
          · have hl1 : (k : Int) < 6 := by omega
            have hl0 : (0 : Int) ≤ (k : Int) := by omega
            have HKK := Lib.hid hlt
            have HRD := Lib.hid (HI.out.read HS1.out.1 hlt HS1.out.2.1)
            obtain ⟨s, hs⟩ : ∃ s : ByteArray, Hid (s = ⟨(f k).toArray⟩) := ⟨_, Lib.hid rfl⟩
            have HFK : Hid (nowL st1.log k = f k) := Lib.hid (HS1.out.2.2 k)
            have HFR : Hid (∀ w4, SI W w4 st1 sr1 g r bb f k → (∃ x, w4.cell? ⟨bb, k, none⟩ = some x) ∧ w4.frozen? ⟨bb, k, none⟩ = false) := Lib.hid fun w4 ⟨T, R, h⟩ => h.six.free HKK.out
            clear hlt hk
            go_wp2_with (go_at_call 16; refine HRD.out.mono ?_; rintro e' w4 ⟨v4, rfl, hv4, hs4⟩; have HS4 := Lib.hid hs4; rw [HFK.out] at hv4; have hc4 := conv_row hv4; rw [← hs.out] at hc4; obtain ⟨⟨x4, kc4⟩, kf4⟩ := HFR.out _ hs4; clear hv4 hs4)
            go_roundg (6 - (k + 1))
            case measure => have := HKK.out; omega
            case rel => exact ⟨k + 1, by go_num, by have := HKK.out; omega, rfl, Lib.hid (by rw [hs.out]; exact HS4.out.set HKK.out)⟩
          · have hl1 : ¬ (k : Int) < 6 := by omega
            have hk6 : k = 6 := by omega
            have HI6 : Hid (SI W wr st1 sr1 g r bb f 6) := Lib.hid (hk6 ▸ HI.out)
            clear hk6 hlt
            replace HI := HI6
            clear HI6
            have HCR : Hid (Calls Try.prog 17 #[.pointer (some ⟨g, 0, none⟩), .int .u64 18446744073709551615] wr fun e w' => e = .returned (.int .i64 0) ∧ SI W w' (crashS st1 18446744073709551615) sr1 g r bb f 6) := Lib.hid (HI.out.crash (by have := HL1.out; omega) 18446744073709551615 (by decide))
            obtain ⟨su0, hsu⟩ : ∃ x, crashS st1 18446744073709551615 = x := ⟨_, rfl⟩
            have HSU : Hid (su0.out = false ∧ su0.sz = 6 ∧ ∀ k, nowL su0.log k = f k) := Lib.hid (by rw [← hsu]; exact ⟨rfl, HS1.out.2.1, HSU0.out⟩)
            have HLU : Hid (su0.log.length ≤ 50000 ∧ su0.un = []) := Lib.hid (by rw [← hsu]; exact ⟨Nat.le_trans (crash_len _ _) (by have := HL1.out; omega), crash_un _ _⟩)
            rw [hsu] at HCR
            clear hsu 
            go_wp2_with (go_at_call 17; refine HCR.out.mono ?_; rintro e' w5 ⟨rfl, hs5⟩; have HS5 := Lib.hid hs5; clear hs5)
            go_loopg [16] 6 (fun m i wr => ∃ k : Nat, i = .int .i64 k ∧ k ≤ 6 ∧ m = 6 - k ∧ Hid (SI W wr su0 sr1 g r bb f 6))
            case atStart => exact ⟨0, rfl, Nat.zero_le _, rfl, HS5⟩
            case round =>
              obtain ⟨k, rfl, hk, rfl, HI⟩ := hrel
              by_cases hlt : k < 6
              · have hl1 : (k : Int) < 6 := by omega
                have hl0 : (0 : Int) ≤ (k : Int) := by omega
                have HKK := Lib.hid hlt
                have HRD := Lib.hid (HI.out.read HSU.out.1 hlt HSU.out.2.1)
                obtain ⟨s, hs⟩ : ∃ s : ByteArray, Hid (s = ⟨(f k).toArray⟩) := ⟨_, Lib.hid rfl⟩
                have HFK : Hid (nowL su0.log k = f k) := Lib.hid (HSU.out.2.2 k)
                clear hlt hk
                go_upto_region 32 with (go_at_call 16; refine HRD.out.mono ?_; rintro e' w4 ⟨v4, rfl, hv4, hs4⟩; have HV4 := Lib.hid hv4; have HS4 := Lib.hid (hs4.grow ((Below.refl _ w4).drew)); clear hv4 hs4)
                have hv5 := HV4.out.on ((Below.refl _ w4).drew)
                rw [HFK.out] at hv5
                have hc5 := conv_row hv5
                rw [← hs.out] at hc5
                obtain ⟨T5, R5, h5⟩ := HS4.out
                have hk5 := h5.six.cell (j := k) HKK.out
                rw [← hs.out] at hk5
                obtain ⟨u5, hu5⟩ : ∃ v, w4.drew = v := ⟨_, rfl⟩
                rw [hu5] at hc5 hk5 HS4
                have HC5 := Lib.hid (And.intro hc5 hk5)
                clear hv5 hc5 hk5 h5
                refine wp_region_held_drew (S := fun W => (convert 43 9 v4).run Try.prog W = .ok (.string s) W ∧ W.cell? ⟨bb, k, none⟩ = some (.string s)) (by kernel_rfl) ?_ (fun hHeld => ?_)
                · (try dsimp only)
                  rw [hu5]
                  exact HC5.out
                rw [hu5] at hHeld ⊢
                clear hu5
                refine takeSome (i := 0) (v := ?_) (by decide +kernel) rfl (by rfl) (by decide +kernel) (by decide +kernel) (fun _ _ _ h => h) (by assumption) ?_ ?_
                rotate_left
                focus (intro w0 hSw; (try dsimp only at hSw); go_simp; (try (with_reducible rfl)); done)
                (try simp only [Act.put, List.getElem_toArray, List.getElem_cons_zero, List.setIfInBounds_toArray, List.set_cons_zero, List.set_cons_succ])
                refine takeSome (i := 1) (v := ?_) (by decide +kernel) rfl (by rfl) (by decide +kernel) (by decide +kernel) (fun _ _ _ h => h) (by assumption) ?_ ?_
                rotate_left
                focus (intro w0 hSw; (try dsimp only at hSw); go_simp; (try (with_reducible rfl)); done)
                (try simp only [Act.put, List.getElem_toArray, List.getElem_cons_zero, List.getElem_cons_succ, List.setIfInBounds_toArray, List.set_cons_zero, List.set_cons_succ])
                refine takeSome (i := 2) (v := ?_) (by decide +kernel) rfl (by rfl) (by decide +kernel) (by decide +kernel) (fun _ _ _ h => h) (by assumption) ?_ ?_
                rotate_left
                focus (intro w0 hSw; (try dsimp only at hSw); go_simp; (try (with_reducible rfl)); done)
                (try simp only [Act.put, List.getElem_toArray, List.getElem_cons_zero, List.getElem_cons_succ, List.setIfInBounds_toArray, List.set_cons_zero, List.set_cons_succ])
                refine takeSome (i := 3) (v := ?_) (by decide +kernel) rfl (by rfl) (by decide +kernel) (by decide +kernel) (fun _ _ _ h => h) (by assumption) ?_ ?_
                rotate_left
                focus (intro w0 hSw; (try dsimp only at hSw); go_simp; (try (with_reducible rfl)); done)
                (try simp only [Act.put, List.getElem_toArray, List.getElem_cons_zero, List.getElem_cons_succ, List.setIfInBounds_toArray, List.set_cons_zero, List.set_cons_succ])
                refine takeSome (i := 4) (v := ?_) (by decide +kernel) rfl (by rfl) (by decide +kernel) (by decide +kernel) (fun _ _ _ h => h) (by assumption) ?_ ?_
                rotate_left
                focus (intro w0 hSw; (try dsimp only at hSw); go_simp; (try (with_reducible rfl)); done)
                (try simp only [Act.put, List.getElem_toArray, List.getElem_cons_zero, List.getElem_cons_succ, List.setIfInBounds_toArray, List.set_cons_zero, List.set_cons_succ])
                refine takeSome (i := 5) (v := ?_) (by decide +kernel) rfl (by rfl) (by decide +kernel) (by decide +kernel) (fun _ _ _ h => h) (by assumption) ?_ ?_
                rotate_left
                focus (intro w0 hSw; (try dsimp only at hSw); go_simp; (try (with_reducible rfl)); done)
                (try simp only [Act.put, List.getElem_toArray, List.getElem_cons_zero, List.getElem_cons_succ, List.setIfInBounds_toArray, List.set_cons_zero, List.set_cons_succ])
                refine takeSome (i := 6) (v := ?_) (by decide +kernel) rfl (by rfl) (by decide +kernel) (by decide +kernel) (fun _ _ _ h => h) (by assumption) ?_ ?_
                rotate_left
                focus (intro w0 hSw; (try dsimp only at hSw); go_simp; (try (with_reducible rfl)); done)
                (try simp only [Act.put, List.getElem_toArray, List.getElem_cons_zero, List.getElem_cons_succ, List.setIfInBounds_toArray, List.set_cons_zero, List.set_cons_succ])
                refine takeSome (i := 7) (v := ?_) (by decide +kernel) rfl (by rfl) (by decide +kernel) (by decide +kernel) (fun _ _ _ h => h) (by assumption) ?_ ?_
                rotate_left
                focus (intro w0 hSw; (try dsimp only at hSw); go_simp; (try (with_reducible rfl)); done)
                (try simp only [Act.put, List.getElem_toArray, List.getElem_cons_zero, List.getElem_cons_succ, List.setIfInBounds_toArray, List.set_cons_zero, List.set_cons_succ])
                refine takeSome (i := 8) (v := ?_) (by decide +kernel) rfl (by rfl) (by decide +kernel) (by decide +kernel) (fun _ _ _ h => h) (by assumption) ?_ ?_
                rotate_left
                focus (intro w0 hSw; (try dsimp only at hSw); go_simp; (try (with_reducible rfl)); done)
                (try simp only [Act.put, List.getElem_toArray, List.getElem_cons_zero, List.getElem_cons_succ, List.setIfInBounds_toArray, List.set_cons_zero, List.set_cons_succ])
                refine takeSome (i := 9) (v := ?_) (by decide +kernel) rfl (by rfl) (by decide +kernel) (by decide +kernel) (fun _ _ _ h => h) (by assumption) ?_ ?_
                rotate_left
                focus (intro w0 hSw; (try dsimp only at hSw); go_simp; (try (with_reducible rfl)); done)
                (try simp only [Act.put, List.getElem_toArray, List.getElem_cons_zero, List.getElem_cons_succ, List.setIfInBounds_toArray, List.set_cons_zero, List.set_cons_succ])
                refine takeSome (i := 10) (v := ?_) (by decide +kernel) rfl (by rfl) (by decide +kernel) (by decide +kernel) (fun _ _ _ h => h) (by assumption) ?_ ?_
                rotate_left
                focus (intro w0 hSw; (try dsimp only at hSw); go_simp; (try (with_reducible rfl)); done)
                (try simp only [Act.put, List.getElem_toArray, List.getElem_cons_zero, List.getElem_cons_succ, List.setIfInBounds_toArray, List.set_cons_zero, List.set_cons_succ])
                refine wpAnyH_done (by decide +kernel) ?_ _
                clear hHeld
                go_wp2_with fail
                go_roundg (6 - (k + 1))
                case measure => have := HKK.out; omega
                case rel => exact ⟨k + 1, by go_num, by have := HKK.out; omega, rfl, HS4⟩
              · have hl1 : ¬ (k : Int) < 6 := by omega
                have HUN := Lib.hid (HI.out.unsure HLU.out.1 HLU.out.2)
                go_wp2_with (go_at_call 18; refine HUN.out.mono ?_; rintro e' w6 ⟨A6, c6, rfl, hb6⟩; have HB6 := Lib.hid hb6; clear hb6)
                go_ret
                exact ⟨rfl, HB6.out⟩
      · have e1 : ((wh : Nat) : Int).tmod 3 = 2 := by rw [Int.tmod_eq_emod_of_nonneg (by omega)]; omega
        have e2 : ((wh : Nat) : Int) % 3 = 2 := by omega
        have e3 : IntKind.u8.wrap 2 = 2 := by rfl
        clear hq
        have HBR := Lib.hid (HI0.out.barrier (by have := HLL.out; omega) HO.out HZ.out)
        obtain ⟨st1, hst1⟩ : ∃ x, ({ st with n := st.log.length } : DS) = x := ⟨_, rfl⟩
        have HRR : Hid (∀ w2, SI W w2 st1 st g r bb f 0 → Calls Try.prog 15 #[.pointer (some ⟨r, 0, none⟩)] w2 fun e w' => e = .returned (.int .i64 0) ∧ SI W w' st1 st1 g r bb f 0) := Lib.hid fun w2 hi => by
          have := hi.rbarrier (by have := HLL.out; omega) HO.out HZ.out
          rw [hst1] at this
          exact this
        have HS1 : Hid (st1.out = false ∧ st1.sz = 6 ∧ ∀ k, nowL st1.log k = f k) := Lib.hid (by rw [← hst1]; exact ⟨HO.out, HSZ.out, hf.out⟩)
        have HKP : Hid (Kept st1 st1 0) := Lib.hid (by rw [← hst1]; exact ⟨rfl, rfl, [], (List.append_nil _).symm, Nat.le_refl _⟩)
        have HL1 : Hid (st1.log.length ≤ 100) := Lib.hid (by rw [← hst1]; exact HLL.out)
        rw [hst1] at HBR
        clear hst1
        go_upto_region 11 with (first | (go_at_call 14; refine HBR.out.mono ?_; rintro e' w2 ⟨rfl, hi1⟩; have HIR := Lib.hid (HRR.out _ hi1); clear hi1) | (go_at_call 15; refine HIR.out.mono ?_; rintro e' w3 ⟨rfl, hi1⟩; have HI1 := Lib.hid hi1; clear hi1))
        obtain ⟨sr1, hsr1⟩ : ∃ x, st1 = x := ⟨_, rfl⟩
        have HI2 : Hid (SI W w3 st1 sr1 g r bb f 0) := Lib.hid (hsr1 ▸ HI1.out)
        have HSR : Hid (sr1 = st1) := Lib.hid hsr1.symm
        clear hsr1 HI1
        have HI1 := HI2
        clear HI2
        go_wp2_with fail
        go_loopg [12] 6 (fun m i wr => ∃ k : Nat, i = .int .i64 k ∧ k ≤ 6 ∧ m = 6 - k ∧ Hid (SI W wr st1 sr1 g r bb f k))
        case atStart => exact ⟨0, rfl, Nat.zero_le _, rfl, HI1⟩
        case round =>
          obtain ⟨k, rfl, hk, rfl, HI⟩ := hrel
          by_cases hlt : k < 6
          · have hl1 : (k : Int) < 6 := by omega
            have hl0 : (0 : Int) ≤ (k : Int) := by omega
            have HKK := Lib.hid hlt
            have HRD := Lib.hid (HI.out.read HS1.out.1 hlt HS1.out.2.1)
            obtain ⟨s, hs⟩ : ∃ s : ByteArray, Hid (s = ⟨(f k).toArray⟩) := ⟨_, Lib.hid rfl⟩
            have HFK : Hid (nowL st1.log k = f k) := Lib.hid (HS1.out.2.2 k)
            have HFR : Hid (∀ w4, SI W w4 st1 sr1 g r bb f k → (∃ x, w4.cell? ⟨bb, k, none⟩ = some x) ∧ w4.frozen? ⟨bb, k, none⟩ = false) := Lib.hid fun w4 ⟨T, R, h⟩ => h.six.free HKK.out
            clear hlt hk
            go_wp2_with (go_at_call 16; refine HRD.out.mono ?_; rintro e' w4 ⟨v4, rfl, hv4, hs4⟩; have HS4 := Lib.hid hs4; rw [HFK.out] at hv4; have hc4 := conv_row hv4; rw [← hs.out] at hc4; obtain ⟨⟨x4, kc4⟩, kf4⟩ := HFR.out _ hs4; clear hv4 hs4)
            go_roundg (6 - (k + 1))
            case measure => have := HKK.out; omega
            case rel => exact ⟨k + 1, by go_num, by have := HKK.out; omega, rfl, Lib.hid (by rw [hs.out]; exact HS4.out.set HKK.out)⟩
          · have hl1 : ¬ (k : Int) < 6 := by omega
            have hk6 : k = 6 := by omega
            have HI6 : Hid (SI W wr st1 sr1 g r bb f 6) := Lib.hid (hk6 ▸ HI.out)
            clear hk6 hlt
            replace HI := HI6
            clear HI6
            go_wp2_with fail
            go_loopg [15] 50 (fun m i wr => ∃ k : Nat, i = .int .i64 k ∧ k ≤ 50 ∧ k ≤ l2.length ∧ m = 50 - k ∧ Hid (∃ st', Kept st1 st' k ∧ SI W wr st' st' g r bb f 6))
            case atStart => exact ⟨0, rfl, Nat.zero_le _, Nat.zero_le _, rfl, Lib.hid ⟨st1, HKP.out, by have := HI.out; rw [HSR.out] at this; exact this⟩⟩
            case round =>
              obtain ⟨k, rfl, hk, hkl, rfl, HQ⟩ := hrel
              have HKK := Lib.hid hk
              by_cases h1 : k < l2.length
              · have h1' : (k : Int) < (l2.length : Int) := by omega
                have h0' : (0 : Int) ≤ (k : Int) := by omega
                by_cases h2 : k < 50
                · have h2' : (k : Int) < 50 := by omega
                  obtain ⟨st', hkp, hsi⟩ := HQ.out
                  obtain ⟨T2, R2, hs1⟩ := id hsi
                  obtain ⟨b, o, rfl, hlt, hok, c0, c1, c2, c3, c4⟩ := act_at (HA2.out.on hs1.b) h1
                  have hkl2 := hkp.len
                  have hsl := HL1.out
                  have HAC := Lib.hid (hsi.act (by omega) (by omega) l2[k] hok)
                  generalize l2[k] = a at *
                  obtain ⟨kd, ps, fl, od, mk⟩ := a
                  have HLT := Lib.hid h2
                  have HLL2 := Lib.hid h1
                  dsimp only at c0 c1 c2 c3 c4 HAC
                  by_cases hkd : kd = 2
                  · subst hkd
                    have HST : Hid (∀ w2, SI W w2 (actS st' ⟨2, ps, fl, od, mk⟩) (actS st' ⟨2, ps, fl, od, mk⟩) g r bb f 6 → ∃ st', Kept st1 st' (k + 1) ∧ SI W w2 st' st' g r bb f 6) := Lib.hid fun w2 h => ⟨_, hkp.step _ rfl, h⟩
                    clear hkp hsi hs1 hlt hok hkl2 hsl
                    go_wp2_with (go_at_call 11; refine HAC.out.mono ?_; rintro e' w2 ⟨bq, rfl, hw2⟩; have HG2 := Lib.hid (HST.out w2 hw2); clear hw2)
                    go_roundg (50 - (k + 1))
                    case measure => have := HLT.out; omega
                    case rel => exact ⟨k + 1, by go_num, by have := HLT.out; omega, by have := HLL2.out; omega, rfl, HG2⟩
                  · have hkd2 : (kd == 2) = false := by rw [beq_eq_false_iff_ne]; exact hkd
                    have HG2 : Hid (∃ st', Kept st1 st' (k + 1) ∧ SI W wr st' st' g r bb f 6) := Lib.hid ⟨st', hkp.more, hsi⟩
                    clear hkp hsi hs1 hlt hok hkl2 hsl
                    go_wp2_with fail
                    go_roundg (50 - (k + 1))
                    case measure => have := HLT.out; omega
                    case rel => exact ⟨k + 1, by go_num, by have := HLT.out; omega, by have := HLL2.out; omega, rfl, HG2⟩
                · have h2' : ¬ (k : Int) < 50 := by omega
                  obtain ⟨st', hkp, hsi⟩ := HQ.out
                  have hkl2 := hkp.len
                  have hsl := HL1.out
                  have hk50 := HKK.out
                  have HCR : Hid (Calls Try.prog 17 #[.pointer (some ⟨g, 0, none⟩), .int .u64 0] wr fun e w' => e = .returned (.int .i64 0) ∧ SI W w' (crashS st' 0) st' g r bb f 6) := Lib.hid (hsi.crash (by omega) 0 (by decide))
                  obtain ⟨su0, hsu⟩ : ∃ x, crashS st' 0 = x := ⟨_, rfl⟩
                  have HSU : Hid (su0.out = false ∧ su0.sz = 6 ∧ ∀ k, nowL su0.log k = f k) := Lib.hid (by rw [← hsu]; exact ⟨rfl, hkp.2.1.trans HS1.out.2.1, fun j => by rw [hkp.crash]; exact HS1.out.2.2 j⟩)
                  have HLU : Hid (su0.log.length ≤ 50000 ∧ su0.un = []) := Lib.hid (by rw [← hsu]; exact ⟨Nat.le_trans (crash_len _ _) (by omega), crash_un _ _⟩)
                  rw [hsu] at HCR
                  clear hsu hkp hsi hkl2 hsl hk50
                  go_wp2_with (go_at_call 17; refine HCR.out.mono ?_; rintro e' w5 ⟨rfl, hs5⟩; have HS5 := Lib.hid hs5; clear hs5)
                  go_loopg [16] 6 (fun m i wr => ∃ k : Nat, i = .int .i64 k ∧ k ≤ 6 ∧ m = 6 - k ∧ Hid (SI W wr su0 st' g r bb f 6))
                  case atStart => exact ⟨0, rfl, Nat.zero_le _, rfl, HS5⟩
                  case round =>
                    obtain ⟨k, rfl, hk, rfl, HI⟩ := hrel
                    by_cases hlt : k < 6
                    · have hl1 : (k : Int) < 6 := by omega
                      have hl0 : (0 : Int) ≤ (k : Int) := by omega
                      have HKK := Lib.hid hlt
                      have HRD := Lib.hid (HI.out.read HSU.out.1 hlt HSU.out.2.1)
                      obtain ⟨s, hs⟩ : ∃ s : ByteArray, Hid (s = ⟨(f k).toArray⟩) := ⟨_, Lib.hid rfl⟩
                      have HFK : Hid (nowL su0.log k = f k) := Lib.hid (HSU.out.2.2 k)
                      clear hlt hk
                      go_upto_region 32 with (go_at_call 16; refine HRD.out.mono ?_; rintro e' w4 ⟨v4, rfl, hv4, hs4⟩; have HV4 := Lib.hid hv4; have HS4 := Lib.hid (hs4.grow ((Below.refl _ w4).drew)); clear hv4 hs4)
                      have hv5 := HV4.out.on ((Below.refl _ w4).drew)
                      rw [HFK.out] at hv5
                      have hc5 := conv_row hv5
                      rw [← hs.out] at hc5
                      obtain ⟨T5, R5, h5⟩ := HS4.out
                      have hk5 := h5.six.cell (j := k) HKK.out
                      rw [← hs.out] at hk5
                      obtain ⟨u5, hu5⟩ : ∃ v, w4.drew = v := ⟨_, rfl⟩
                      rw [hu5] at hc5 hk5 HS4
                      have HC5 := Lib.hid (And.intro hc5 hk5)
                      clear hv5 hc5 hk5 h5
                      refine wp_region_held_drew (S := fun W => (convert 43 9 v4).run Try.prog W = .ok (.string s) W ∧ W.cell? ⟨bb, k, none⟩ = some (.string s)) (by kernel_rfl) ?_ (fun hHeld => ?_)
                      · (try dsimp only)
                        rw [hu5]
                        exact HC5.out
                      rw [hu5] at hHeld ⊢
                      clear hu5
                      refine takeSome (i := 0) (v := ?_) (by decide +kernel) rfl (by rfl) (by decide +kernel) (by decide +kernel) (fun _ _ _ h => h) (by assumption) ?_ ?_
                      rotate_left
                      focus (intro w0 hSw; (try dsimp only at hSw); go_simp; (try (with_reducible rfl)); done)
                      (try simp only [Act.put, List.getElem_toArray, List.getElem_cons_zero, List.setIfInBounds_toArray, List.set_cons_zero, List.set_cons_succ])
                      refine takeSome (i := 1) (v := ?_) (by decide +kernel) rfl (by rfl) (by decide +kernel) (by decide +kernel) (fun _ _ _ h => h) (by assumption) ?_ ?_
                      rotate_left
                      focus (intro w0 hSw; (try dsimp only at hSw); go_simp; (try (with_reducible rfl)); done)
                      (try simp only [Act.put, List.getElem_toArray, List.getElem_cons_zero, List.getElem_cons_succ, List.setIfInBounds_toArray, List.set_cons_zero, List.set_cons_succ])
                      refine takeSome (i := 2) (v := ?_) (by decide +kernel) rfl (by rfl) (by decide +kernel) (by decide +kernel) (fun _ _ _ h => h) (by assumption) ?_ ?_
                      rotate_left
                      focus (intro w0 hSw; (try dsimp only at hSw); go_simp; (try (with_reducible rfl)); done)
                      (try simp only [Act.put, List.getElem_toArray, List.getElem_cons_zero, List.getElem_cons_succ, List.setIfInBounds_toArray, List.set_cons_zero, List.set_cons_succ])
                      refine takeSome (i := 3) (v := ?_) (by decide +kernel) rfl (by rfl) (by decide +kernel) (by decide +kernel) (fun _ _ _ h => h) (by assumption) ?_ ?_
                      rotate_left
                      focus (intro w0 hSw; (try dsimp only at hSw); go_simp; (try (with_reducible rfl)); done)
                      (try simp only [Act.put, List.getElem_toArray, List.getElem_cons_zero, List.getElem_cons_succ, List.setIfInBounds_toArray, List.set_cons_zero, List.set_cons_succ])
                      refine takeSome (i := 4) (v := ?_) (by decide +kernel) rfl (by rfl) (by decide +kernel) (by decide +kernel) (fun _ _ _ h => h) (by assumption) ?_ ?_
                      rotate_left
                      focus (intro w0 hSw; (try dsimp only at hSw); go_simp; (try (with_reducible rfl)); done)
                      (try simp only [Act.put, List.getElem_toArray, List.getElem_cons_zero, List.getElem_cons_succ, List.setIfInBounds_toArray, List.set_cons_zero, List.set_cons_succ])
                      refine takeSome (i := 5) (v := ?_) (by decide +kernel) rfl (by rfl) (by decide +kernel) (by decide +kernel) (fun _ _ _ h => h) (by assumption) ?_ ?_
                      rotate_left
                      focus (intro w0 hSw; (try dsimp only at hSw); go_simp; (try (with_reducible rfl)); done)
                      (try simp only [Act.put, List.getElem_toArray, List.getElem_cons_zero, List.getElem_cons_succ, List.setIfInBounds_toArray, List.set_cons_zero, List.set_cons_succ])
                      refine takeSome (i := 6) (v := ?_) (by decide +kernel) rfl (by rfl) (by decide +kernel) (by decide +kernel) (fun _ _ _ h => h) (by assumption) ?_ ?_
                      rotate_left
                      focus (intro w0 hSw; (try dsimp only at hSw); go_simp; (try (with_reducible rfl)); done)
                      (try simp only [Act.put, List.getElem_toArray, List.getElem_cons_zero, List.getElem_cons_succ, List.setIfInBounds_toArray, List.set_cons_zero, List.set_cons_succ])
                      refine takeSome (i := 7) (v := ?_) (by decide +kernel) rfl (by rfl) (by decide +kernel) (by decide +kernel) (fun _ _ _ h => h) (by assumption) ?_ ?_
                      rotate_left
                      focus (intro w0 hSw; (try dsimp only at hSw); go_simp; (try (with_reducible rfl)); done)
                      (try simp only [Act.put, List.getElem_toArray, List.getElem_cons_zero, List.getElem_cons_succ, List.setIfInBounds_toArray, List.set_cons_zero, List.set_cons_succ])
                      refine takeSome (i := 8) (v := ?_) (by decide +kernel) rfl (by rfl) (by decide +kernel) (by decide +kernel) (fun _ _ _ h => h) (by assumption) ?_ ?_
                      rotate_left
                      focus (intro w0 hSw; (try dsimp only at hSw); go_simp; (try (with_reducible rfl)); done)
                      (try simp only [Act.put, List.getElem_toArray, List.getElem_cons_zero, List.getElem_cons_succ, List.setIfInBounds_toArray, List.set_cons_zero, List.set_cons_succ])
                      refine takeSome (i := 9) (v := ?_) (by decide +kernel) rfl (by rfl) (by decide +kernel) (by decide +kernel) (fun _ _ _ h => h) (by assumption) ?_ ?_
                      rotate_left
                      focus (intro w0 hSw; (try dsimp only at hSw); go_simp; (try (with_reducible rfl)); done)
                      (try simp only [Act.put, List.getElem_toArray, List.getElem_cons_zero, List.getElem_cons_succ, List.setIfInBounds_toArray, List.set_cons_zero, List.set_cons_succ])
                      refine takeSome (i := 10) (v := ?_) (by decide +kernel) rfl (by rfl) (by decide +kernel) (by decide +kernel) (fun _ _ _ h => h) (by assumption) ?_ ?_
                      rotate_left
                      focus (intro w0 hSw; (try dsimp only at hSw); go_simp; (try (with_reducible rfl)); done)
                      (try simp only [Act.put, List.getElem_toArray, List.getElem_cons_zero, List.getElem_cons_succ, List.setIfInBounds_toArray, List.set_cons_zero, List.set_cons_succ])
                      refine wpAnyH_done (by decide +kernel) ?_ _
                      clear hHeld
                      go_wp2_with fail
                      go_roundg (6 - (k + 1))
                      case measure => have := HKK.out; omega
                      case rel => exact ⟨k + 1, by go_num, by have := HKK.out; omega, rfl, HS4⟩
                    · have hl1 : ¬ (k : Int) < 6 := by omega
                      have HUN := Lib.hid (HI.out.unsure HLU.out.1 HLU.out.2)
                      go_wp2_with (go_at_call 18; refine HUN.out.mono ?_; rintro e' w6 ⟨A6, c6, rfl, hb6⟩; have HB6 := Lib.hid hb6; clear hb6)
                      go_ret
                      exact ⟨rfl, HB6.out⟩
              · have h1' : ¬ (k : Int) < (l2.length : Int) := by omega
                obtain ⟨st', hkp, hsi⟩ := HQ.out
                have hkl2 := hkp.len
                have hsl := HL1.out
                have hk50 := HKK.out
                have HCR : Hid (Calls Try.prog 17 #[.pointer (some ⟨g, 0, none⟩), .int .u64 0] wr fun e w' => e = .returned (.int .i64 0) ∧ SI W w' (crashS st' 0) st' g r bb f 6) := Lib.hid (hsi.crash (by omega) 0 (by decide))
                obtain ⟨su0, hsu⟩ : ∃ x, crashS st' 0 = x := ⟨_, rfl⟩
                have HSU : Hid (su0.out = false ∧ su0.sz = 6 ∧ ∀ k, nowL su0.log k = f k) := Lib.hid (by rw [← hsu]; exact ⟨rfl, hkp.2.1.trans HS1.out.2.1, fun j => by rw [hkp.crash]; exact HS1.out.2.2 j⟩)
                have HLU : Hid (su0.log.length ≤ 50000 ∧ su0.un = []) := Lib.hid (by rw [← hsu]; exact ⟨Nat.le_trans (crash_len _ _) (by omega), crash_un _ _⟩)
                rw [hsu] at HCR
                clear hsu hkp hsi hkl2 hsl hk50
                go_wp2_with (go_at_call 17; refine HCR.out.mono ?_; rintro e' w5 ⟨rfl, hs5⟩; have HS5 := Lib.hid hs5; clear hs5)
                go_loopg [16] 6 (fun m i wr => ∃ k : Nat, i = .int .i64 k ∧ k ≤ 6 ∧ m = 6 - k ∧ Hid (SI W wr su0 st' g r bb f 6))
                case atStart => exact ⟨0, rfl, Nat.zero_le _, rfl, HS5⟩
                case round =>
                  obtain ⟨k, rfl, hk, rfl, HI⟩ := hrel
                  by_cases hlt : k < 6
                  · have hl1 : (k : Int) < 6 := by omega
                    have hl0 : (0 : Int) ≤ (k : Int) := by omega
                    have HKK := Lib.hid hlt
                    have HRD := Lib.hid (HI.out.read HSU.out.1 hlt HSU.out.2.1)
                    obtain ⟨s, hs⟩ : ∃ s : ByteArray, Hid (s = ⟨(f k).toArray⟩) := ⟨_, Lib.hid rfl⟩
                    have HFK : Hid (nowL su0.log k = f k) := Lib.hid (HSU.out.2.2 k)
                    clear hlt hk
                    go_upto_region 32 with (go_at_call 16; refine HRD.out.mono ?_; rintro e' w4 ⟨v4, rfl, hv4, hs4⟩; have HV4 := Lib.hid hv4; have HS4 := Lib.hid (hs4.grow ((Below.refl _ w4).drew)); clear hv4 hs4)
                    have hv5 := HV4.out.on ((Below.refl _ w4).drew)
                    rw [HFK.out] at hv5
                    have hc5 := conv_row hv5
                    rw [← hs.out] at hc5
                    obtain ⟨T5, R5, h5⟩ := HS4.out
                    have hk5 := h5.six.cell (j := k) HKK.out
                    rw [← hs.out] at hk5
                    obtain ⟨u5, hu5⟩ : ∃ v, w4.drew = v := ⟨_, rfl⟩
                    rw [hu5] at hc5 hk5 HS4
                    have HC5 := Lib.hid (And.intro hc5 hk5)
                    clear hv5 hc5 hk5 h5
                    refine wp_region_held_drew (S := fun W => (convert 43 9 v4).run Try.prog W = .ok (.string s) W ∧ W.cell? ⟨bb, k, none⟩ = some (.string s)) (by kernel_rfl) ?_ (fun hHeld => ?_)
                    · (try dsimp only)
                      rw [hu5]
                      exact HC5.out
                    rw [hu5] at hHeld ⊢
                    clear hu5
                    refine takeSome (i := 0) (v := ?_) (by decide +kernel) rfl (by rfl) (by decide +kernel) (by decide +kernel) (fun _ _ _ h => h) (by assumption) ?_ ?_
                    rotate_left
                    focus (intro w0 hSw; (try dsimp only at hSw); go_simp; (try (with_reducible rfl)); done)
                    (try simp only [Act.put, List.getElem_toArray, List.getElem_cons_zero, List.setIfInBounds_toArray, List.set_cons_zero, List.set_cons_succ])
                    refine takeSome (i := 1) (v := ?_) (by decide +kernel) rfl (by rfl) (by decide +kernel) (by decide +kernel) (fun _ _ _ h => h) (by assumption) ?_ ?_
                    rotate_left
                    focus (intro w0 hSw; (try dsimp only at hSw); go_simp; (try (with_reducible rfl)); done)
                    (try simp only [Act.put, List.getElem_toArray, List.getElem_cons_zero, List.getElem_cons_succ, List.setIfInBounds_toArray, List.set_cons_zero, List.set_cons_succ])
                    refine takeSome (i := 2) (v := ?_) (by decide +kernel) rfl (by rfl) (by decide +kernel) (by decide +kernel) (fun _ _ _ h => h) (by assumption) ?_ ?_
                    rotate_left
                    focus (intro w0 hSw; (try dsimp only at hSw); go_simp; (try (with_reducible rfl)); done)
                    (try simp only [Act.put, List.getElem_toArray, List.getElem_cons_zero, List.getElem_cons_succ, List.setIfInBounds_toArray, List.set_cons_zero, List.set_cons_succ])
                    refine takeSome (i := 3) (v := ?_) (by decide +kernel) rfl (by rfl) (by decide +kernel) (by decide +kernel) (fun _ _ _ h => h) (by assumption) ?_ ?_
                    rotate_left
                    focus (intro w0 hSw; (try dsimp only at hSw); go_simp; (try (with_reducible rfl)); done)
                    (try simp only [Act.put, List.getElem_toArray, List.getElem_cons_zero, List.getElem_cons_succ, List.setIfInBounds_toArray, List.set_cons_zero, List.set_cons_succ])
                    refine takeSome (i := 4) (v := ?_) (by decide +kernel) rfl (by rfl) (by decide +kernel) (by decide +kernel) (fun _ _ _ h => h) (by assumption) ?_ ?_
                    rotate_left
                    focus (intro w0 hSw; (try dsimp only at hSw); go_simp; (try (with_reducible rfl)); done)
                    (try simp only [Act.put, List.getElem_toArray, List.getElem_cons_zero, List.getElem_cons_succ, List.setIfInBounds_toArray, List.set_cons_zero, List.set_cons_succ])
                    refine takeSome (i := 5) (v := ?_) (by decide +kernel) rfl (by rfl) (by decide +kernel) (by decide +kernel) (fun _ _ _ h => h) (by assumption) ?_ ?_
                    rotate_left
                    focus (intro w0 hSw; (try dsimp only at hSw); go_simp; (try (with_reducible rfl)); done)
                    (try simp only [Act.put, List.getElem_toArray, List.getElem_cons_zero, List.getElem_cons_succ, List.setIfInBounds_toArray, List.set_cons_zero, List.set_cons_succ])
                    refine takeSome (i := 6) (v := ?_) (by decide +kernel) rfl (by rfl) (by decide +kernel) (by decide +kernel) (fun _ _ _ h => h) (by assumption) ?_ ?_
                    rotate_left
                    focus (intro w0 hSw; (try dsimp only at hSw); go_simp; (try (with_reducible rfl)); done)
                    (try simp only [Act.put, List.getElem_toArray, List.getElem_cons_zero, List.getElem_cons_succ, List.setIfInBounds_toArray, List.set_cons_zero, List.set_cons_succ])
                    refine takeSome (i := 7) (v := ?_) (by decide +kernel) rfl (by rfl) (by decide +kernel) (by decide +kernel) (fun _ _ _ h => h) (by assumption) ?_ ?_
                    rotate_left
                    focus (intro w0 hSw; (try dsimp only at hSw); go_simp; (try (with_reducible rfl)); done)
                    (try simp only [Act.put, List.getElem_toArray, List.getElem_cons_zero, List.getElem_cons_succ, List.setIfInBounds_toArray, List.set_cons_zero, List.set_cons_succ])
                    refine takeSome (i := 8) (v := ?_) (by decide +kernel) rfl (by rfl) (by decide +kernel) (by decide +kernel) (fun _ _ _ h => h) (by assumption) ?_ ?_
                    rotate_left
                    focus (intro w0 hSw; (try dsimp only at hSw); go_simp; (try (with_reducible rfl)); done)
                    (try simp only [Act.put, List.getElem_toArray, List.getElem_cons_zero, List.getElem_cons_succ, List.setIfInBounds_toArray, List.set_cons_zero, List.set_cons_succ])
                    refine takeSome (i := 9) (v := ?_) (by decide +kernel) rfl (by rfl) (by decide +kernel) (by decide +kernel) (fun _ _ _ h => h) (by assumption) ?_ ?_
                    rotate_left
                    focus (intro w0 hSw; (try dsimp only at hSw); go_simp; (try (with_reducible rfl)); done)
                    (try simp only [Act.put, List.getElem_toArray, List.getElem_cons_zero, List.getElem_cons_succ, List.setIfInBounds_toArray, List.set_cons_zero, List.set_cons_succ])
                    refine takeSome (i := 10) (v := ?_) (by decide +kernel) rfl (by rfl) (by decide +kernel) (by decide +kernel) (fun _ _ _ h => h) (by assumption) ?_ ?_
                    rotate_left
                    focus (intro w0 hSw; (try dsimp only at hSw); go_simp; (try (with_reducible rfl)); done)
                    (try simp only [Act.put, List.getElem_toArray, List.getElem_cons_zero, List.getElem_cons_succ, List.setIfInBounds_toArray, List.set_cons_zero, List.set_cons_succ])
                    refine wpAnyH_done (by decide +kernel) ?_ _
                    clear hHeld
                    go_wp2_with fail
                    go_roundg (6 - (k + 1))
                    case measure => have := HKK.out; omega
                    case rel => exact ⟨k + 1, by go_num, by have := HKK.out; omega, rfl, HS4⟩
                  · have hl1 : ¬ (k : Int) < 6 := by omega
                    have HUN := Lib.hid (HI.out.unsure HLU.out.1 HLU.out.2)
                    go_wp2_with (go_at_call 18; refine HUN.out.mono ?_; rintro e' w6 ⟨A6, c6, rfl, hb6⟩; have HB6 := Lib.hid hb6; clear hb6)
                    go_ret
                    exact ⟨rfl, HB6.out⟩
end Go.Proofs.Ytngfffbnofejmaa
