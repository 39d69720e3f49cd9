/- The walk of PlanCovers. -/
import Derived.Test.YtbcmnhbpomjinaaGreatTileM
import Derived.Test.YtbcmnhbpomjinaaGreatRefInts
namespace Go.Proofs.YtbcmnhbpomjinaaGreat
open Go.RowKit
theorem one_type {a : Nat} {b : Array Value} {t1 T : TypeId} (h1 : t1 ≠ T) : ∀ e ∈ [(a, b, t1)], e.2.2 ≠ T := fun e he => by
  rw [List.mem_singleton.1 he]; exact h1
theorem Two.drew {w W : World} {v1 v2 : Value} {l1 l2 : List Int} (h : Two w v1 l1 v2 l2 W) : Two w v1 l1 v2 l2 W.drew := h.on ⟨rfl, rfl, rfl, Nat.le_refl _, fun _ _ => rfl⟩
set_option maxRecDepth 100000 in
set_option maxHeartbeats 2000000 in
theorem covers_walk (o : List (Int × Int)) (Ao : Option Addr) (co : Nat) (l : List PV) (Ap : Option Addr) (cp : Nat) (x y m : Int) (hl : l.length ≤ 8796093022208) (hown : ∀ x ∈ l, x.par.own.size ≤ maxLen) (w : World) (h : PlanAt w o Ao co l Ap cp) :
    Calls Tryz.prog 4 #[.agg #[.slice Ao o.length co, .slice Ap l.length cp], .int .i64 x, .int .i64 y, .int .i64 m] w fun e w' => e = .returned (.bool true) ∧ Below w.heap.size w w' := by
  have hlo : o.length ≤ 8796093022208 := by have := h.room; omega
  have HAN := Lib.hid (fun W => plan_answers W)
  have HSM := Lib.hid (fun W (hb : Below w.heap.size w W) => small_any o Ao co l Ap cp hlo W (h.prs.on hb))
  have HOW := Lib.hid (fun W (hb : Below w.heap.size w W) (hll : l.length ≤ 1000000) => Own_any o Ao co l Ap cp hll W (h.on hb))
  have HCV := Lib.hid (fun W A1 c1 l' Ap1 cp1 (hll : l.length ≤ 1000000) (hm : l'.map PV.par = l.map PV.par) (hp : PlanAt W o A1 c1 l' Ap1 cp1) => owned_cover x y m hll hlo hown hm hp)
  have HRC := Lib.hid (fun W (hb : Below w.heap.size w W) (hll : l.length ≤ 1000000) (h4 : o.length ≤ 400) => ref_chk o Ao co l Ap cp hll (by omega) hown W (h.prs.on hb) (h.out.on hb))
  have HPR := Lib.hid (fun W (hb : Below w.heap.size w W) => h.prs.on hb)
  have HQ := (Hold.refl w).new #[.slice Ao o.length co, .slice Ap l.length cp] 26
  clear h hown hlo
  go_enter Tryz.func4, Tryz.ntmps4
  go_upto_region 1 with (fail)
  generalize (World.alloc _ _) = W1 at HQ ⊢
  generalize w.heap.size = g0 at HQ ⊢
  have HQX := Lib.hid HQ
  clear HQ
  go_wp2_with fail
  go_at_call 14
  refine (HAN.out _).mono ?_
  rintro e W2 ⟨rfl, hB⟩
  have hq := HQX.out.on hB
  have HQ2 := Lib.hid hq
  obtain ⟨c0, c1⟩ := hq.pt (.head _)
  clear hB hq
  go_wp2_with fail
  go_at_call 15
  refine (HSM.out _ HQ2.out.1).mono ?_
  rintro e W3 ⟨b, rfl, hsm, hB⟩
  have hq := HQ2.out.on hB
  have HQ3 := Lib.hid hq
  have HS := Lib.hid hsm
  clear hB c0 c1 hsm
  obtain ⟨c0, c1⟩ := hq.pt (.head _)
  clear hq
  cases b
  · go_wp2_with (go_at_call 14; go_must (refine (HAN.out _).mono ?_; rintro e' W4 ⟨rfl, hB⟩; have HB4 := Lib.hid (HQ3.out.on hB).1; clear hB))
    go_ret
    exact ⟨rfl, HB4.out⟩
  · obtain ⟨s1, s2, s3⟩ := HS.out rfl
    have HL1 : Hid (l.length ≤ 1000000) := by unfold Hid; omega
    have HO4 := Lib.hid s1
    clear s1 s2 s3 HS
    go_wp2_with fail
    go_at_call 17
    refine (HOW.out _ HQ3.out.1 HL1.out).mono ?_
    rintro e W4 ⟨hB, A1, cA, l', Ap1, cp1, rfl, hm, hp⟩
    have hq := HQ3.out.on hB
    have HQ4 := Lib.hid hq
    have HC4 := Lib.hid (HCV.out W4 A1 cA l' Ap1 cp1 HL1.out hm hp)
    clear hB hm hp c0 c1 hq
    go_wp2_with fail
    go_at_call 27
    refine HC4.out.mono ?_
    rintro e W5 ⟨hB, hcv⟩
    have hcv' : ∃ A5 c5 A6 c6, e = .returned (.tuple #[.slice A5 (if cvE o l x y m = 0 then idsAt l x y m 1 else []).length c5, .slice A6 (if cvE o l x y m = 0 then idsAt l x y m 0 else []).length c6, .int .i64 (cvE o l x y m)]) ∧ Items W5 W5.heap.size A5 encN (if cvE o l x y m = 0 then idsAt l x y m 1 else []) ∧ Items W5 W5.heap.size A6 encN (if cvE o l x y m = 0 then idsAt l x y m 0 else []) := by
      rcases hcv with ⟨hne, rfl⟩ | ⟨hz, A5, c5, A6, c6, rfl, i5, i6⟩
      · rw [if_neg hne, if_neg hne]
        exact ⟨none, 0, none, 0, rfl, Items.nil _ _ _ _, Items.nil _ _ _ _⟩
      · rw [if_pos hz, if_pos hz]
        exact ⟨A5, c5, A6, c6, by rw [hz], i5, i6⟩
    obtain ⟨A5, c5, A6, c6, rfl, hi5, hi6⟩ := hcv'
    have hq := HQ4.out.on hB
    have HQ5 := Lib.hid hq
    have HI5 := Lib.hid hi5
    have HI6 := Lib.hid hi6
    obtain ⟨c0, c1⟩ := hq.pt (.head _)
    have HRX := Lib.hid (fun W hb => HRC.out W hb HL1.out HO4.out)
    clear hB hq HC4 hcv hi5 hi6 HRC
    have HLS : Hid (∀ v, (if cvE o l x y m = 0 then idsAt l x y m v else []).length ≤ 1000000) := fun v => by
      split
      · have := idsAt_len l x y m v l.length
        rw [List.take_length] at this
        have := HL1.out
        omega
      · exact Nat.zero_le _
    have HEQ : Hid (∀ v, cvE o l x y m = 0 → (if cvE o l x y m = 0 then idsAt l x y m v else []) = idsAt l x y m v) := fun v hz => if_pos hz
    have HEN : Hid (∀ v, cvE o l x y m ≠ 0 → (if cvE o l x y m = 0 then idsAt l x y m v else []) = []) := fun v hz => if_neg hz
    have HL5 := Lib.hid (HLS.out 1)
    have HL6 := Lib.hid (HLS.out 0)
    have HE5 := Lib.hid (HEQ.out 1)
    have HE6 := Lib.hid (HEQ.out 0)
    have HN5 := Lib.hid (HEN.out 1)
    have HN6 := Lib.hid (HEN.out 0)
    clear HLS HEQ HEN
    generalize (if cvE o l x y m = 0 then idsAt l x y m 1 else []) = in1 at *
    generalize (if cvE o l x y m = 0 then idsAt l x y m 0 else []) = on0 at *
    go_wp2_with fail
    go_at_call 20
    refine (HRX.out _ HQ5.out.1).mono ?_
    rintro e' W6 ⟨rfl, hB⟩
    have hq := HQ5.out.on hB
    have HQ6 := Lib.hid hq
    have HI7 := Lib.hid (HI5.out.on hB)
    have HI8 := Lib.hid (HI6.out.on hB)
    clear c0 c1 hB HRX HI5 HI6
    obtain ⟨c0, c1⟩ := hq.pt (.head _)
    clear hq
    have HCP : Hid (cvE o l x y m = 0 → CheckP o l ∧ SpOk x y m) := cvE_zero
    have HNB : Hid (chkB o l = true → cvE o l x y m = spE x y m) := cvE_good x y m
    have HNC : Hid (chkB o l = false → cvE o l x y m = 2) := cvE_bad x y m
    generalize hck : chkB o l = ck at *
    clear hck
    generalize cvE o l x y m = ee at *
    go_upto_if 36 with (fail)
    go_cut [12] (fun s wx => s = .int .i64 ee ∧ Hold w [(g0, #[.slice Ao o.length co, .slice Ap l.length cp], 26)] wx ∧ Below W6.heap.size W6 wx)
    case first =>
      clear HI7 HI8 HE5 HE6 HN5 HN6 HL5 HL6 HPR
      cases ck
      · have HE := Lib.hid (HNC.out rfl)
        clear HNC
        clear HNB HCP
        go_wp2_with fail
        go_meet
        exact ⟨by rw [HE.out], HQ6.out, Below.refl _ _⟩
      · have HX := Lib.hid (HNB.out rfl)
        clear HNC
        by_cases h1 : m < 1
        · have HE := Lib.hid (HX.out.trans (spE_arg (.inl h1)))
          clear HX
          clear HNB HCP
          go_wp2_with fail
          go_meet
          exact ⟨by rw [HE.out], HQ6.out, Below.refl _ _⟩
        · by_cases h2 : 1024 < m
          · have HE := Lib.hid (HX.out.trans (spE_arg (.inr h2)))
            clear HX
            clear HNB HCP
            go_wp2_with fail
            go_meet
            exact ⟨by rw [HE.out], HQ6.out, Below.refl _ _⟩
          · have w1 := wrap_in (n := 1073741824 * m) (by omega) (by omega)
            have w2 := wrap_in (n := -1073741824 * m) (by omega) (by omega)
            have HFR := Lib.hid (fun h => HX.out.trans (spE_far (x := x) (y := y) (m := m) (by omega) h))
            have HOK := Lib.hid (fun h => HX.out.trans (spE_ok (x := x) (y := y) (m := m) (by omega) h))
            clear HX
            obtain ⟨lim, hlim⟩ : ∃ k, 1073741824 * m = k := ⟨_, rfl⟩
            obtain ⟨nlim, hnl⟩ : ∃ k, -1073741824 * m = k := ⟨_, rfl⟩
            have hn2 : nlim = -lim := by omega
            rw [hlim] at w1 HFR HOK
            rw [hnl] at w2
            have HN2 := Lib.hid hn2
            clear hn2
            by_cases h3 : x < nlim
            · have HE := Lib.hid (HFR.out (by have := HN2.out; omega))
              clear HFR HOK
              clear HNB HCP
              go_wp2_with fail
              go_meet
              exact ⟨by rw [HE.out], HQ6.out, Below.refl _ _⟩
            · by_cases h4 : lim < x
              · have HE := Lib.hid (HFR.out (by have := HN2.out; omega))
                clear HFR HOK
                clear HNB HCP
                go_wp2_with fail
                go_meet
                exact ⟨by rw [HE.out], HQ6.out, Below.refl _ _⟩
              · by_cases h5 : y < nlim
                · have HE := Lib.hid (HFR.out (by have := HN2.out; omega))
                  clear HFR HOK
                  clear HNB HCP
                  go_wp2_with fail
                  go_meet
                  exact ⟨by rw [HE.out], HQ6.out, Below.refl _ _⟩
                · by_cases h6 : lim < y
                  · have HE := Lib.hid (HFR.out (by have := HN2.out; omega))
                    clear HFR HOK
                    clear HNB HCP
                    go_wp2_with fail
                    go_meet
                    exact ⟨by rw [HE.out], HQ6.out, Below.refl _ _⟩
                  · have HE := Lib.hid (HOK.out (by have := HN2.out; omega))
                    clear HFR HOK
                    clear HNB HCP
                    go_wp2_with fail
                    go_meet
                    exact ⟨by rw [HE.out], HQ6.out, Below.refl _ _⟩
    case rest =>
      obtain ⟨rfl, HB7, hbx⟩ := hcut
      have HQ7 := Lib.hid HB7
      have HI9 := Lib.hid (HI7.out.on hbx)
      have HI10 := Lib.hid (HI8.out.on hbx)
      clear HI7 HI8 HQ6 c0 c1 hbx HNB HNC HCV HOW HSM
      obtain ⟨c0, c1⟩ := HB7.pt (.head _)
      by_cases hz : ee = 0
      · obtain ⟨hcp, hsp⟩ := HCP.out hz
        have HCC := Lib.hid hcp
        have HSP := Lib.hid hsp
        have h5 := HE5.out hz
        have h6 := HE6.out hz
        subst h5 h6 hz
        have HTW : Two wc (.slice none 0 0) (idsAt (l.take 0) x y m 1) (.slice none 0 0) (idsAt (l.take 0) x y m 0) wc := ⟨RowI.nil (Below.refl _ _), RowI.nil (Below.refl _ _), fun g hg => by cases hg⟩
        clear HCP HE5 HE6 HN5 HN6 hcp hsp
        go_wp2_with fail
        clear c0 c1
        go_loopg [13, 14, 15] l.length (fun g v1 v2 i wr => ∃ k : Nat, k ≤ l.length ∧ g = l.length - k ∧ i = .int .i64 k ∧ Two wc v1 (idsAt (l.take k) x y m 1) v2 (idsAt (l.take k) x y m 0) wr ∧ Hold w [(g0, #[.slice Ao o.length co, .slice Ap l.length cp], 26)] wr)
        case atStart => exact ⟨0, Nat.zero_le _, rfl, rfl, HTW, HB7⟩
        case round =>
          clear HTW HB7
          obtain ⟨k, hk, hgk, rfl, HT, HB⟩ := hrel
          have HGK := Lib.hid hgk
          clear hgk
          obtain ⟨c0, c1⟩ := HB.pt (.head _)
          by_cases hlt : k < l.length
          · have hw := HPR.out _ HB.1
            have HAT := Lib.hid (fun W (hb : Below w.heap.size w W) => (HPR.out W hb).at hlt)
            obtain ⟨ad, hA, -, d0, d1, d2⟩ := hw.at hlt
            have HCELL : Hid (∀ W, Below w.heap.size w W → W.cell? (ad.add (k * 3)) = some (.int .i64 l[k].par.id)) := fun W hb => by
              obtain ⟨ad', e, -, h0, -, -⟩ := HAT.out W hb
              obtain rfl := Option.some.inj (hA.symm.trans e)
              exact h0
            have hp := (hw.2 l[k] (List.getElem_mem hlt)).1
            have hsm := normP_small (check_ring HCC.out (List.getElem_mem hlt))
            have hsd := fun W (hr : Pts W W.heap.size l[k].A l[k].par.ring) => ref_cover l[k].par.ring l[k].A l[k].cap x y m HSP.out (by unfold maxLen; omega) (gdL_iff.2 hsm.2.2) W hr
            rw [← spS_side (norm_sound (check_ring HCC.out (List.getElem_mem hlt))) HSP.out.1] at hsd
            have HSC := Lib.hid (hsd wr hp)
            have HI1 := Lib.hid (idsAt_take hlt x y m 1)
            have HI0 := Lib.hid (idsAt_take hlt x y m 0)
            have HN1 := Lib.hid (idsAt_len l x y m 1 k)
            have HN0 := Lib.hid (idsAt_len l x y m 0 k)
            have hsv := spS_vals l[k].par.ring x y m
            have b0 : (0 : Int) ≤ (k : Int) := by omega
            have b1 : (k : Int) < (l.length : Int) := by omega
            have b9 : (l.length : Int) ≤ 1000000 := by have := HL1.out; omega
            have HKB : Hid (k ≤ 1000000) := by unfold Hid; have := HL1.out; omega
            have HQ8 := Lib.hid HB
            have HT8 := Lib.hid HT
            clear hw hp hsm hsd HAT HB HT
            subst hA
            generalize idsAt (l.take k) x y m 1 = l1 at *
            generalize idsAt (l.take k) x y m 0 = l0 at *
            generalize l[k] = z at *
            generalize spS z.par.ring x y m = sv at *
            go_wp2_with fail
            go_at_call 28
            refine HSC.out.mono ?_
            rintro e' W9 ⟨rfl, hB⟩
            have hq9 := HQ8.out.on hB
            have HQ9 := Lib.hid hq9
            have HT9 := Lib.hid (HT8.out.on hB)
            clear c0 c1 d0 d1 d2 hB HSC
            obtain ⟨c0, c1⟩ := hq9.pt (.head _)
            have d0 := HCELL.out _ hq9.1
            clear hq9
            rcases hsv with rfl | rfl | rfl
            · have HJ1 : Hid (idsAt (l.take (k + 1)) x y m 1 = l1 ++ [z.par.id]) := by unfold Hid; rw [HI1.out, if_pos rfl]
              have HJ0 : Hid (idsAt (l.take (k + 1)) x y m 0 = l0) := by unfold Hid; rw [HI0.out, if_neg (by decide)]
              clear HI1 HI0
              go_wp2_with (at_builtin; go_must (refine append_itemA kindN Tryz.underlying51 HT9.out.1 z.par.id 3 (cs := #[.int .i64 z.par.id]) rfl (by have := HN1.out; have := HKB.out; unfold maxLen; omega) (by have := HN1.out; have := HKB.out; omega) rfl _ _ rfl rfl 1 rfl ?_; intro v9 w9 hr9 hg9 ha9; have HTX := Lib.hid (HT9.out.more hr9 hg9 ha9); have HQX2 := Lib.hid (HQ9.out.more (HT9.out.1.base HQ7.out.1) (hr9.base HQ7.out.1) hg9 (one_type (by decide))); clear hr9 hg9 ha9))
              go_roundg (l.length - (k + 1))
              case measure => have := HGK.out; omega
              case rel => exact ⟨k + 1, by omega, rfl, by go_num, by rw [HJ1.out, HJ0.out]; exact HTX.out, HQX2.out⟩
            · have HJ1 : Hid (idsAt (l.take (k + 1)) x y m 1 = l1) := by unfold Hid; rw [HI1.out, if_neg (by decide)]
              have HJ0 : Hid (idsAt (l.take (k + 1)) x y m 0 = l0 ++ [z.par.id]) := by unfold Hid; rw [HI0.out, if_pos rfl]
              clear HI1 HI0
              go_wp2_with (at_builtin; go_must (refine append_itemA kindN Tryz.underlying51 HT9.out.2.1 z.par.id 3 (cs := #[.int .i64 z.par.id]) rfl (by have := HN0.out; have := HKB.out; unfold maxLen; omega) (by have := HN0.out; have := HKB.out; omega) rfl _ _ rfl rfl 1 rfl ?_; intro v9 w9 hr9 hg9 ha9; have HTX := Lib.hid ((HT9.out.swap.more hr9 hg9 ha9).swap); have HQX2 := Lib.hid (HQ9.out.more (HT9.out.2.1.base HQ7.out.1) (hr9.base HQ7.out.1) hg9 (one_type (by decide))); clear hr9 hg9 ha9))
              go_roundg (l.length - (k + 1))
              case measure => have := HGK.out; omega
              case rel => exact ⟨k + 1, by omega, rfl, by go_num, by rw [HJ1.out, HJ0.out]; exact HTX.out, HQX2.out⟩
            · have HJ1 : Hid (idsAt (l.take (k + 1)) x y m 1 = l1) := by unfold Hid; rw [HI1.out, if_neg (by decide)]
              have HJ0 : Hid (idsAt (l.take (k + 1)) x y m 0 = l0) := by unfold Hid; rw [HI0.out, if_neg (by decide)]
              clear HI1 HI0
              go_wp2_with fail
              go_roundg (l.length - (k + 1))
              case measure => have := HGK.out; omega
              case rel => exact ⟨k + 1, by omega, rfl, by go_num, by rw [HJ1.out, HJ0.out]; exact HT9.out, HQ9.out⟩
          · obtain rfl : k = l.length := by omega
            rw [List.take_length] at HT
            have HB9 := Lib.hid HB
            obtain ⟨A7, c7, rfl, i7, -⟩ := HT.1.items
            obtain ⟨A8, c8, rfl, i8, -⟩ := HT.2.1.items
            have HX9 := Lib.hid (fun W (hb : Below wr.heap.size wr W) => ref_ints _ _ A5 A7 c5 c7 HL5.out W (((HI9.out.on HT.1.1)).on hb) (i7.on hb))
            have HX10 := Lib.hid (fun W (hb : Below wr.heap.size wr W) => ref_ints _ _ A6 A8 c6 c8 HL6.out W (((HI10.out.on HT.1.1)).on hb) (i8.on hb))
            rw [decide_eq_true rfl] at HX9 HX10
            have HB0 := Below.refl wr.heap.size wr
            clear HB HT i7 i8 HI9 HI10 HPR HCC HSP HL5 HL6
            generalize (idsAt l x y m 1).length = n1 at *
            generalize (idsAt l x y m 0).length = n0 at *
            go_wp2_with fail
            go_at_call 29
            refine (HX9.out _ HB0).mono ?_
            rintro e' W10 ⟨rfl, hB⟩
            have HB10 := Lib.hid hB
            have HQ10 := Lib.hid (HB9.out.on hB)
            clear hB c0 c1 HX9 HB0
            go_wp2_with (go_at_call 29; go_must (refine (HX10.out _ HB10.out).mono ?_; rintro e' W11 ⟨rfl, hB⟩; have HB11 := Lib.hid (HQ10.out.on hB).1; clear hB))
            go_ret
            exact ⟨rfl, HB11.out⟩
      · have h5 := HN5.out hz
        have h6 := HN6.out hz
        subst h5 h6
        have e1 : (ee == 0) = false := by simpa using hz
        have HX := Lib.hid (fun (A B : Option Addr) (ca cb : Nat) W => ref_ints [] [] A B ca cb (Nat.zero_le _) W (Items.nil _ _ _ _) (Items.nil _ _ _ _))
        rw [decide_eq_true rfl] at HX
        simp only [List.length_nil] at HX ⊢
        clear HCP HE5 HE6 HN5 HN6 HI9 HI10 HL5 HL6 HPR hz
        go_wp2_with fail
        go_loopg [13, 14, 15] 0 (fun g v1 v2 i wr => g = 0 ∧ i = .int .i64 0 ∧ v1 = .slice none 0 0 ∧ v2 = .slice none 0 0 ∧ Hold w [(g0, #[.slice Ao o.length co, .slice Ap l.length cp], 26)] wr)
        case atStart => exact ⟨rfl, rfl, rfl, rfl, HB7⟩
        case round =>
          clear c0 c1 HB7
          obtain ⟨hg, rfl, rfl, rfl, HB⟩ := hrel
          have HB9 := Lib.hid HB
          obtain ⟨c0, c1⟩ := HB.pt (.head _)
          clear HB hg
          go_wp2_with fail
          go_at_call 29
          refine (HX.out _ _ _ _ _).mono ?_
          rintro e' W10 ⟨rfl, hB⟩
          have HQ10 := Lib.hid (HB9.out.on hB)
          clear hB c0 c1
          go_wp2_with (go_at_call 29; go_must (refine (HX.out _ _ _ _ _).mono ?_; rintro e' W11 ⟨rfl, hB⟩; have HB11 := Lib.hid (HQ10.out.on hB).1; clear hB))
          go_ret
          exact ⟨rfl, HB11.out⟩
end Go.Proofs.YtbcmnhbpomjinaaGreat
