/- Layer pager: a root sealed; the last root of a disk. -/
import Derived.Test.YtfjiceoagenfnaaDoorPRoot
set_option maxRecDepth 20000
namespace Go.Proofs.YtfjiceoagenfnaaDoor
open Go.RowKit Go.Lib Go.ChangeMaps Go.MapKept

theorem BRow.from {w0 w1 W : World} {v : Value} {l : List UInt8} (h : BRow w1 v l W) (hb : Below w0.heap.size w0 w1) : BRow w0 v l W := h.up hb
set_option maxHeartbeats 4000000 in
theorem sealed_any {W : World} (hE : Env W) (q r : Nat) (hq : q ≤ 2000000000) (hr : r ≤ 65536) :
    Calls Tryd.prog 57 #[.agg #[.int .i64 (q : Nat), .int .i64 (r : Nat)]] W fun e w' => ∃ v, e = .returned v ∧ BRow W v (rootS (q, r)) w' := by
  go_enter Tryd.func57, Tryd.ntmps57
  go_upto_region 1 with (fail)
  have hb := (Below.alloc (Below.refl W.heap.size W) (Nat.le_refl _) (Obj.cells #[.int .i64 (q : Nat), .int .i64 (r : Nat)] 64 (0, 0))).drew
  have hb0 : (W.alloc (Obj.cells #[.int .i64 (q : Nat), .int .i64 (r : Nat)] 64 (0, 0))).drew.heap[W.heap.size]? = _ := heap_alloc_new W (Obj.cells #[.int .i64 (q : Nat), .int .i64 (r : Nat)] 64 (0, 0))
  obtain ⟨b, hbb⟩ : ∃ b, W.heap.size = b := ⟨_, rfl⟩
  rw [hbb] at hb0 ⊢
  obtain ⟨u, hu⟩ : ∃ u, (W.alloc (Obj.cells #[.int .i64 (q : Nat), .int .i64 (r : Nat)] 64 (0, 0))).drew = u := ⟨_, rfl⟩
  rw [hu] at hb hb0
  have h1 : Calls Tryd.prog 47 #[.slice none 0 0, .int .i64 (q : Nat), .int .i64 7] u fun e w' => ∃ v, e = .returned v ∧ BRow u v (putL q 7) w' := PutNum_nil q 7 (by decide) (by decide) (by omega)
  have H1 := Lib.hid h1
  have HE := Lib.hid (hE.on hb)
  have HB := Lib.hid hb
  have HC := Lib.hid (And.intro (blk_cell hb0 0) (And.intro (blk_cell hb0 1) (blk_lt hb0)))
  have HQ := Lib.hid (And.intro hq hr)
  have HBB := Lib.hid hbb
  clear hE hb hb0 h1 hq hr hbb
  refine wp_region_held_drew (S := fun W => W.cell? ⟨b, 0, none⟩ = some (.int .i64 (q : Nat)) ∧ W.cell? ⟨b, 1, none⟩ = some (.int .i64 (r : Nat))) (by kernel_rfl) ?_ (fun hHeld => ?_)
  · (try dsimp only)
    rw [hu]
    exact ⟨HC.out.1, HC.out.2.1⟩
  rw [hu] at hHeld ⊢
  clear hu
  refine takeSome (i := 0) (v := ?_) (by decide +kernel) rfl (by rfl) (by decide +kernel) (by decide +kernel) (fun _ _ _ h => h) (by assumption) ?_ ?_
  rotate_left
  focus (intro w0 hSw; (try dsimp only at hSw); go_simp; (try (with_reducible rfl)); done)
  (try simp only [Act.put, List.getElem_toArray, List.getElem_cons_zero, List.setIfInBounds_toArray, List.set_cons_zero, List.set_cons_succ])
  refine takeSome (i := 1) (v := ?_) (by decide +kernel) rfl (by rfl) (by decide +kernel) (by decide +kernel) (fun _ _ _ h => h) (by assumption) ?_ ?_
  rotate_left
  focus (intro w0 hSw; (try dsimp only at hSw); go_simp; (try (with_reducible rfl)); done)
  (try simp only [Act.put, List.getElem_toArray, List.getElem_cons_zero, List.getElem_cons_succ, List.setIfInBounds_toArray, List.set_cons_zero, List.set_cons_succ])
  refine takeSome (i := 3) (v := ?_) (by decide +kernel) rfl (by rfl) (by decide +kernel) (by decide +kernel) (fun _ _ _ h => h) (by assumption) ?_ ?_
  rotate_left
  focus (intro w0 hSw; (try dsimp only at hSw); go_simp; (try (with_reducible rfl)); done)
  (try simp only [Act.put, List.getElem_toArray, List.getElem_cons_zero, List.getElem_cons_succ, List.setIfInBounds_toArray, List.set_cons_zero, List.set_cons_succ])
  refine takeSome (i := 4) (v := ?_) (by decide +kernel) rfl (by rfl) (by decide +kernel) (by decide +kernel) (fun _ _ _ h => h) (by assumption) ?_ ?_
  rotate_left
  focus (intro w0 hSw; (try dsimp only at hSw); go_simp; (try (with_reducible rfl)); done)
  (try simp only [Act.put, List.getElem_toArray, List.getElem_cons_zero, List.getElem_cons_succ, List.setIfInBounds_toArray, List.set_cons_zero, List.set_cons_succ])
  refine wpAnyH_ready (rs := [2]) (by decide +kernel) (by simp) ?_
  refine AllReadyH.cons rfl (fun K hK => ?_) AllReadyH.nil
  (try simp only [List.getElem_toArray, List.getElem_cons_zero, List.getElem_cons_succ])
  go_simp
  (go_at_call 47; refine H1.out.mono ?_; rintro e' w1 ⟨v1, rfl, hr1⟩; have HR1 := Lib.hid hr1; obtain ⟨A1, c1, ev, hB1, hk1, hl1, hm1⟩ := hr1.at; rw [putL_len] at ev; subst ev; have H2 : Hid (Calls Tryd.prog 47 #[.slice A1 7 c1, .int .i64 (r : Nat), .int .i64 4] w1 fun e w' => ∃ v, e = .returned v ∧ BRow w1 v (putL q 7 ++ putL r 4) w') := Lib.hid (by have h := PutNum_any (W := w1) (A := A1) (c := c1) (s := putL q 7) (r : Int) 4 hB1 hr1.nil (by rw [putL_len]; decide) (by have := HQ.out; omega); rw [putL_len, show (4 : Int) = ((4 : Nat) : Int) from rfl, putB_nat (putL q 7) r 4 (by decide) (by decide) (by have := HQ.out; omega)] at h; exact h); clear hr1 hB1 hk1 hl1 hm1)
  refine hK.out _ _ ?_ (fun hHeld => ?_)
  focus ((try dsimp only); exact ⟨(HR1.out.1.cell (p := ⟨b, 0, none⟩) HC.out.2.2).trans HC.out.1, (HR1.out.1.cell (p := ⟨b, 1, none⟩) HC.out.2.2).trans HC.out.2.1⟩; done)
  clear hK K
  (try simp only [Act.put, List.getElem_toArray, List.getElem_cons_zero, List.getElem_cons_succ, List.setIfInBounds_toArray, List.set_cons_zero, List.set_cons_succ])
  refine wpAnyH_ready (rs := [5]) (by decide +kernel) (by simp) ?_
  refine AllReadyH.cons rfl (fun K hK => ?_) AllReadyH.nil
  (try simp only [List.getElem_toArray, List.getElem_cons_zero, List.getElem_cons_succ])
  go_simp
  (go_at_call 47; refine H2.out.mono ?_; rintro e' w2 ⟨v2, rfl, hr2⟩; have HR2 := Lib.hid hr2; have hbw := HR1.out.1.trans (hr2.1.mono HR1.out.1.size); have HBW := Lib.hid hbw; clear hr2 hbw)
  refine hK.out _ _ ?_ (fun hHeld => ?_)
  focus ((try dsimp only); exact ⟨(HBW.out.cell (p := ⟨b, 0, none⟩) HC.out.2.2).trans HC.out.1, (HBW.out.cell (p := ⟨b, 1, none⟩) HC.out.2.2).trans HC.out.2.1⟩; done)
  clear hK K
  (try simp only [Act.put, List.getElem_toArray, List.getElem_cons_zero, List.getElem_cons_succ, List.setIfInBounds_toArray, List.set_cons_zero, List.set_cons_succ])
  refine takeSome (i := 6) (v := ?_) (by decide +kernel) rfl (by rfl) (by decide +kernel) (by decide +kernel) (fun _ _ _ h => h) (by assumption) ?_ ?_
  rotate_left
  focus (intro w0 hSw; (try dsimp only at hSw); go_simp; (try (with_reducible rfl)); done)
  (try simp only [Act.put, List.getElem_toArray, List.getElem_cons_zero, List.getElem_cons_succ, List.setIfInBounds_toArray, List.set_cons_zero, List.set_cons_succ])
  refine wpAnyH_done (by decide +kernel) ?_ _
  clear hHeld
  obtain ⟨A2, c2, ev, hB2, hk2, hl2, hm2⟩ := HR2.out.at
  have hlen : (putL q 7 ++ putL r 4).length = 11 := by rw [List.length_append, putL_len, putL_len]
  rw [hlen] at ev
  subst ev
  have hE2 := HE.out.on HBW.out
  have h3 := Seal_any hE2 (A := A2) (c := c2) (s := putL q 7 ++ putL r 4) 1 hB2 HR2.out.nil
  have e3 : slE 1 (putL q 7 ++ putL r 4) = 0 := by unfold slE; rw [if_neg (by decide), if_neg (by rw [hlen]; decide)]
  have e4 : slV 1 (putL q 7 ++ putL r 4) = rootS (q, r) := by unfold slV; rw [if_pos e3]; rfl
  rw [e3, e4, hlen] at h3
  have H3 := Lib.hid h3
  have HL := Lib.hid (HB.out.trans (HBW.out.mono HB.out.size))
  clear h3 hB2 hk2 hl2 hm2 hE2 e3 e4 hlen
  go_wp2_with (go_at_call 28; refine H3.out.mono ?_; rintro e' w3 ⟨v3, rfl, hr3⟩; have HR3 := Lib.hid hr3; clear hr3)
  go_ret
  exact ⟨_, rfl, HR3.out.up HL.out⟩
/-- The root of the first k sectors. -/
def lastK (n : Nat) (log : List Wr) : Nat → Nat × Nat
  | 0 => (0, 0)
  | k + 1 => moreF n (lastK n log k) (opF (nowL log k))
theorem lastK_two (n : Nat) (log : List Wr) : lastK n log 2 = lastF n log := rfl
theorem read_ok {st : DS} {i : Nat} (ho : st.out = false) (hi : i < st.sz) : readE st i = 0 ∧ readS st i = nowL st.log i := by
  have h1 : readE st i = 0 := by unfold readE; rw [if_neg (by rw [ho]; decide), if_neg (by unfold badAt; omega)]
  exact ⟨h1, by unfold readS; rw [if_pos h1]; rfl⟩
theorem nowL_512 {st : DS} (h : st.ok) (i : Nat) : (nowL st.log i).length = 512 := nowL_len (fun w hw => (h.2.1 w hw).2) i
/-- A read of a sector that there is. -/
theorem Read_ok {W : World} {T : Nat → Prop} {st : DS} {g : Nat} (h : Dk W T st g) (ho : st.out = false) {i : Nat} (hi : i < st.sz) :
    Calls Tryd.prog 38 #[.pointer (some ⟨g, 0, none⟩), .int .i64 (i : Nat)] W fun e w' => ∃ A c, e = .returned (.tuple #[.slice A 512 c, .int .i64 0]) ∧ BRow W (.slice A 512 c) (nowL st.log i) w' ∧ BytesAt w' A 512 (nowL st.log i) ∧ (512 ≤ c ∧ c ≤ 9223372036854775807) ∧ ∀ ad, A = some ad → W.heap.size ≤ ad.block ∧ ad.block < w'.heap.size := by
  have hz := h.ok.2.2.2
  refine (Read_any h (i : Int) (by unfold In64; omega)).mono fun e w' ⟨v, e1, hr⟩ => ?_
  obtain ⟨r1, r2⟩ := read_ok ho hi
  rw [r2] at hr
  rw [r1] at e1
  obtain ⟨A, c, ev, hB, hk, hl, hm⟩ := hr.at
  rw [nowL_512 h.ok] at ev hB hl
  subst ev
  exact ⟨A, c, e1, hr, hB, ⟨hl, by unfold maxLen at hm; omega⟩, hk⟩
set_option maxHeartbeats 4000000 in
theorem lastFlip_any {W : World} (hE : Env W) {T : Nat → Prop} {st : DS} {g : Nat} (h : Dk W T st g) (ho : st.out = false) (hz : 2 ≤ st.sz) :
    Calls Tryd.prog 25 #[.pointer (some ⟨g, 0, none⟩)] W fun e w' => e = .returned (.tuple #[.agg #[.int .i64 ((lastF st.sz st.log).1 : Nat), .int .i64 ((lastF st.sz st.log).2 : Nat)], .int .i64 0]) ∧ Below W.heap.size W w' := by
  have hdg := h.ok
  go_enter Tryd.func25, Tryd.ntmps25
  go_wp2_with fail
  have hb1 := Below.alloc (Below.refl W.heap.size W) (Nat.le_refl _) (Obj.cells #[.int .i64 0, .int .i64 0] 64 (0, 0))
  have hn1 := heap_alloc_new W (Obj.cells #[.int .i64 0, .int .i64 0] 64 (0, 0))
  have hs1 := al_size W (Obj.cells #[.int .i64 0, .int .i64 0] 64 (0, 0))
  obtain ⟨u1, hu1⟩ : ∃ u, W.alloc (Obj.cells #[.int .i64 0, .int .i64 0] 64 (0, 0)) = u := ⟨_, rfl⟩
  rw [hu1] at hb1 hn1 hs1 ⊢
  have hb2 := Below.alloc (Below.refl u1.heap.size u1) (Nat.le_refl _) (Obj.cells #[.int .i64 0, .int .i64 0] 64 (0, 0))
  have hn2 := heap_alloc_new u1 (Obj.cells #[.int .i64 0, .int .i64 0] 64 (0, 0))
  obtain ⟨u2, hu2⟩ : ∃ u, u1.alloc (Obj.cells #[.int .i64 0, .int .i64 0] 64 (0, 0)) = u := ⟨_, rfl⟩
  rw [hu2] at hb2 hn2 ⊢
  rw [hs1] at hb2 hn2
  obtain ⟨z, hzz⟩ : ∃ z, W.heap.size = z := ⟨_, rfl⟩
  have HZ := Lib.hid hzz
  rw [hzz] at hb1 hn1 hb2 hn2 hs1 ⊢
  have HS : Hid (Below z W u2 ∧ u2.heap[z]? = some (.cells #[.int .i64 0, .int .i64 0] 64 (0, 0)) ∧ u2.heap[z + 1]? = some (.cells #[.int .i64 ((lastK st.sz st.log 0).1 : Nat), .int .i64 ((lastK st.sz st.log 0).2 : Nat)] 64 (0, 0))) :=
    Lib.hid ⟨hb1.trans (hb2.mono (by omega)), (hb2.block z (by omega)).trans hn1, hn2⟩
  have HD := Lib.hid h
  have HE := Lib.hid hE
  have HO := Lib.hid (And.intro ho hz)
  have HK := Lib.hid hdg
  clear hb1 hn1 hs1 hb2 hn2 hu1 hu2 hzz h hE ho hz hdg
  clear u1
  go_loopg [9] 2 (fun m i wr => ∃ k : Nat, i = .int .i64 k ∧ k ≤ 2 ∧ m = 2 - k ∧ Hid (Below z W wr ∧ wr.heap[z]? = some (.cells #[.int .i64 0, .int .i64 0] 64 (0, 0)) ∧ wr.heap[z + 1]? = some (.cells #[.int .i64 ((lastK st.sz st.log k).1 : Nat), .int .i64 ((lastK st.sz st.log k).2 : Nat)] 64 (0, 0))))
  case atStart => exact ⟨0, rfl, by decide, rfl, HS⟩
  case round =>
    obtain ⟨k, rfl, hk, rfl, HR⟩ := hrel
    by_cases hk2 : k < 2
    · have k1 : (k : Int) < 2 := by omega
      have HKK := Lib.hid hk2
      have hbz : Below W.heap.size W wr := by rw [HZ.out]; exact HR.out.1
      have hdk := HD.out.grow hbz (fun _ e => e) (HD.out.ter.on hbz.size)
      have HRD := Lib.hid (Read_ok hdk HO.out.1 (i := k) (by have := HO.out.2; omega))
      have HDK := Lib.hid hdk
      have HSL := Lib.hid (nowL_512 HK.out k)
      have HBZ := Lib.hid hbz
      clear hk2 hk hbz hdk
      have HX : Hid (lastK st.sz st.log (k + 1) = moreF st.sz (lastK st.sz st.log k) (opF (nowL st.log k))) := Lib.hid rfl
      obtain ⟨lq, lr, hl⟩ : ∃ a b, Hid (lastK st.sz st.log k = (a, b)) := ⟨_, _, Lib.hid rfl⟩
      obtain ⟨mq, mr, hm⟩ : ∃ a b, Hid (lastK st.sz st.log (k + 1) = (a, b)) := ⟨_, _, Lib.hid rfl⟩
      obtain ⟨fq, fr, hf⟩ : ∃ a b, Hid (opF (nowL st.log k) = (a, b)) := ⟨_, _, Lib.hid rfl⟩
      have HRR : Hid (Below z W wr ∧ wr.heap[z]? = some (.cells #[.int .i64 0, .int .i64 0] 64 (0, 0)) ∧ wr.heap[z + 1]? = some (.cells #[.int .i64 (lq : Nat), .int .i64 (lr : Nat)] 64 (0, 0))) := by
        have := HR.out
        rw [hl.out] at this
        exact Lib.hid this
      rw [hl.out, hm.out, hf.out] at HX
      clear HR
      go_upto_region 9 with (first | (go_at_call 38; refine HRD.out.mono ?_; rintro e' w4 ⟨A4, c4, rfl, hv4, hB4, hc4, hk4⟩; have HV4 := Lib.hid hv4.1; have hOF := openedFlip_any (HE.out.on (HBZ.out.trans (hv4.1.mono HBZ.out.size))) (s := nowL st.log k) (A := A4) (c := c4) (by rw [HSL.out]; exact hB4) (by rw [HSL.out]; exact hc4.1) hc4.2; rw [HSL.out, hf.out] at hOF; have HOF := Lib.hid hOF; clear hv4 hB4 hc4 hk4 hOF) | (go_at_call 43; refine HOF.out.mono ?_; rintro e' w5 ⟨rfl, hb5⟩; have HB5 := Lib.hid hb5; clear hb5))
      have hb6 := (Below.alloc (Below.refl w5.heap.size w5) (Nat.le_refl _) (Obj.cells #[.int .i64 (fq : Nat), .int .i64 (fr : Nat)] 64 (0, 0))).drew
      have hn6 : (w5.alloc (Obj.cells #[.int .i64 (fq : Nat), .int .i64 (fr : Nat)] 64 (0, 0))).drew.heap[w5.heap.size]? = _ := heap_alloc_new w5 (Obj.cells #[.int .i64 (fq : Nat), .int .i64 (fr : Nat)] 64 (0, 0))
      have HW5 : Hid (Below wr.heap.size wr w5) := Lib.hid (HV4.out.trans (HB5.out.mono HV4.out.size))
      have hzl : Hid (z + 1 < wr.heap.size) := Lib.hid (blk_lt HRR.out.2.2)
      obtain ⟨y, hy⟩ : ∃ y, w5.heap.size = y := ⟨_, rfl⟩
      have HY := Lib.hid (show z + 1 < y by have := HW5.out.size; have := hzl.out; omega)
      rw [hy] at hn6 hb6 ⊢
      obtain ⟨u6, hu6⟩ : ∃ u, (w5.alloc (Obj.cells #[.int .i64 (fq : Nat), .int .i64 (fr : Nat)] 64 (0, 0))).drew = u := ⟨_, rfl⟩
      rw [hu6] at hn6 hb6
      have HW6 : Hid (Below wr.heap.size wr u6) := Lib.hid (HW5.out.trans (hb6.mono (by have := HW5.out.size; omega)))
      have hz6 := (HW6.out.block (z + 1) hzl.out).trans HRR.out.2.2
      have hz0 := (HW6.out.block z (by have := hzl.out; omega)).trans HRR.out.2.1
      have HC := Lib.hid (And.intro hn6 (And.intro hz6 hz0))
      have HDK6 := Lib.hid (HDK.out.grow HW6.out (fun _ e => e) (HDK.out.ter.on HW6.out.size))
      have HLN := Lib.hid (Len_any HDK6.out)
      have HFT := Lib.hid (fits_any u6 fq fr st.sz)
      have HB6 : Hid (Below z W u6) := Lib.hid (HRR.out.1.trans (HW6.out.mono (by have := hzl.out; omega)))
      clear hb6 hn6 hz6 hz0
      refine wp_region_held_drew (S := fun W => W.cell? ⟨y, 0, none⟩ = some (.int .i64 (fq : Nat)) ∧ W.cell? ⟨y, 1, none⟩ = some (.int .i64 (fr : Nat)) ∧ W.cell? ⟨z + 1, 0, none⟩ = some (.int .i64 (lq : Nat))) (by kernel_rfl) ?_ (fun hHeld => ?_)
      · (try dsimp only)
        rw [hu6]
        exact ⟨blk_cell HC.out.1 0, blk_cell HC.out.1 1, blk_cell HC.out.2.1 0⟩
      rw [hu6] at hHeld ⊢
      clear hu6 hy
      have hyz : y ≠ z + 1 := by have := HY.out; omega
      by_cases hgt : lq < fq
      · have hgt' : (lq : Int) < (fq : Int) := by omega
        have HGT := Lib.hid hgt
        clear hgt
        cases hft : fitsF st.sz (fq, fr)
        · rw [hft] at HFT
          refine takeSome (i := 0) (v := ?_) (by decide +kernel) rfl (by rfl) (by decide +kernel) (by decide +kernel) (fun _ _ _ h => h) (by assumption) ?_ ?_
          rotate_left
          focus (intro w0 hSw; (try dsimp only at hSw); go_simp; (try (with_reducible rfl)); done)
          (try simp only [Act.put, List.getElem_toArray, List.getElem_cons_zero, List.setIfInBounds_toArray, List.set_cons_zero, List.set_cons_succ])
          refine takeSome (i := 1) (v := ?_) (by decide +kernel) rfl (by rfl) (by decide +kernel) (by decide +kernel) (fun _ _ _ h => h) (by assumption) ?_ ?_
          rotate_left
          focus (intro w0 hSw; (try dsimp only at hSw); go_simp; (try (with_reducible rfl)); done)
          (try simp only [Act.put, List.getElem_toArray, List.getElem_cons_zero, List.getElem_cons_succ, List.setIfInBounds_toArray, List.set_cons_zero, List.set_cons_succ])
          refine takeSome (i := 2) (v := ?_) (by decide +kernel) rfl (by rfl) (by decide +kernel) (by decide +kernel) (fun _ _ _ h => h) (by assumption) ?_ ?_
          rotate_left
          focus (intro w0 hSw; (try dsimp only at hSw); go_simp; (try (with_reducible rfl)); done)
          (try simp only [Act.put, List.getElem_toArray, List.getElem_cons_zero, List.getElem_cons_succ, List.setIfInBounds_toArray, List.set_cons_zero, List.set_cons_succ])
          refine takeSome (i := 3) (v := ?_) (by decide +kernel) rfl (by rfl) (by decide +kernel) (by decide +kernel) (fun _ _ _ h => h) (by assumption) ?_ ?_
          rotate_left
          focus (intro w0 hSw; (try dsimp only at hSw); go_simp; (try (with_reducible rfl)); done)
          (try simp only [Act.put, List.getElem_toArray, List.getElem_cons_zero, List.getElem_cons_succ, List.setIfInBounds_toArray, List.set_cons_zero, List.set_cons_succ])
          refine takeSome (i := 4) (v := ?_) (by decide +kernel) rfl (by rfl) (by decide +kernel) (by decide +kernel) (fun _ _ _ h => h) (by assumption) ?_ ?_
          rotate_left
          focus (intro w0 hSw; (try dsimp only at hSw); go_simp; (try (with_reducible rfl)); done)
          (try simp only [Act.put, List.getElem_toArray, List.getElem_cons_zero, List.getElem_cons_succ, List.setIfInBounds_toArray, List.set_cons_zero, List.set_cons_succ])
          refine takeSome (i := 5) (v := ?_) (by decide +kernel) rfl (by rfl) (by decide +kernel) (by decide +kernel) (fun _ _ _ h => h) (by assumption) ?_ ?_
          rotate_left
          focus (intro w0 hSw; (try dsimp only at hSw); go_simp; (try (with_reducible rfl)); done)
          (try simp only [Act.put, List.getElem_toArray, List.getElem_cons_zero, List.getElem_cons_succ, List.setIfInBounds_toArray, List.set_cons_zero, List.set_cons_succ])
          refine takeSome (i := 6) (v := ?_) (by decide +kernel) rfl (by rfl) (by decide +kernel) (by decide +kernel) (fun _ _ _ h => h) (by assumption) ?_ ?_
          rotate_left
          focus (intro w0 hSw; (try dsimp only at hSw); go_simp; (try (with_reducible rfl)); done)
          (try simp only [Act.put, List.getElem_toArray, List.getElem_cons_zero, List.getElem_cons_succ, List.setIfInBounds_toArray, List.set_cons_zero, List.set_cons_succ])
          refine takeSome (i := 7) (v := ?_) (by decide +kernel) rfl (by rfl) (by decide +kernel) (by decide +kernel) (fun _ _ _ h => h) (by assumption) ?_ ?_
          rotate_left
          focus (intro w0 hSw; (try dsimp only at hSw); go_simp; (try (with_reducible rfl)); done)
          (try simp only [Act.put, List.getElem_toArray, List.getElem_cons_zero, List.getElem_cons_succ, List.setIfInBounds_toArray, List.set_cons_zero, List.set_cons_succ])
          refine wpAnyH_ready (rs := [8]) (by decide +kernel) (by simp) ?_
          refine AllReadyH.cons rfl (fun K hK => ?_) AllReadyH.nil
          (try simp only [List.getElem_toArray, List.getElem_cons_zero, List.getElem_cons_succ])
          go_simp
          (go_at_call 24; refine HLN.out.mono ?_; rintro e' wz ⟨rfl, hwz⟩; have hwz := hwz.symm; subst hwz)
          refine hK.out _ _ ?_ (fun hHeld => ?_)
          focus ((try dsimp only); exact hHeld; done)
          clear hK K
          (try simp only [Act.put, List.getElem_toArray, List.getElem_cons_zero, List.getElem_cons_succ, List.setIfInBounds_toArray, List.set_cons_zero, List.set_cons_succ])
          refine wpAnyH_ready (rs := [9]) (by decide +kernel) (by simp) ?_
          refine AllReadyH.cons rfl (fun K hK => ?_) AllReadyH.nil
          (try simp only [List.getElem_toArray, List.getElem_cons_zero, List.getElem_cons_succ])
          go_simp
          (go_at_call 44; refine HFT.out.mono ?_; rintro e' w7 ⟨rfl, hb7⟩; have HB7 := Lib.hid hb7; clear hb7)
          refine hK.out _ _ ?_ (fun hHeld => ?_)
          focus ((try dsimp only); exact ⟨(HB7.out.cell (p := ⟨y, 0, none⟩) (blk_lt HC.out.1)).trans (blk_cell HC.out.1 0), (HB7.out.cell (p := ⟨y, 1, none⟩) (blk_lt HC.out.1)).trans (blk_cell HC.out.1 1), (HB7.out.cell (p := ⟨z + 1, 0, none⟩) (blk_lt HC.out.2.1)).trans (blk_cell HC.out.2.1 0)⟩; done)
          clear hK K
          (try simp only [Act.put, List.getElem_toArray, List.getElem_cons_zero, List.getElem_cons_succ, List.setIfInBounds_toArray, List.set_cons_zero, List.set_cons_succ])
          refine takeSome (i := 10) (v := ?_) (by decide +kernel) rfl (by rfl) (by decide +kernel) (by decide +kernel) (fun _ _ _ h => h) (by assumption) ?_ ?_
          rotate_left
          focus (intro w0 hSw; (try dsimp only at hSw); go_simp; (try (with_reducible rfl)); done)
          (try simp only [Act.put, List.getElem_toArray, List.getElem_cons_zero, List.getElem_cons_succ, List.setIfInBounds_toArray, List.set_cons_zero, List.set_cons_succ])
          refine wpAnyH_done (by decide +kernel) ?_ _
          clear hHeld
          have HX2 : Hid ((mq, mr) = (lq, lr)) := Lib.hid (HX.out.trans (by unfold moreF; rw [if_neg (by rintro ⟨-, e⟩; rw [hft] at e; cases e)]))
          go_wp2_with fail
          go_roundg (2 - (k + 1))
          case measure => have := HKK.out; omega
          case rel =>
            refine ⟨k + 1, by go_num, by have := HKK.out; omega, rfl, Lib.hid ?_⟩
            rw [hm.out, HX2.out]
            exact ⟨HB6.out.trans (HB7.out.mono (by have := HB6.out.size; have := HZ.out; omega)), (HB7.out.block z (blk_lt HC.out.2.2)).trans HC.out.2.2, (HB7.out.block (z + 1) (blk_lt HC.out.2.1)).trans HC.out.2.1⟩
        · rw [hft] at HFT
          refine takeSome (i := 0) (v := ?_) (by decide +kernel) rfl (by rfl) (by decide +kernel) (by decide +kernel) (fun _ _ _ h => h) (by assumption) ?_ ?_
          rotate_left
          focus (intro w0 hSw; (try dsimp only at hSw); go_simp; (try (with_reducible rfl)); done)
          (try simp only [Act.put, List.getElem_toArray, List.getElem_cons_zero, List.setIfInBounds_toArray, List.set_cons_zero, List.set_cons_succ])
          refine takeSome (i := 1) (v := ?_) (by decide +kernel) rfl (by rfl) (by decide +kernel) (by decide +kernel) (fun _ _ _ h => h) (by assumption) ?_ ?_
          rotate_left
          focus (intro w0 hSw; (try dsimp only at hSw); go_simp; (try (with_reducible rfl)); done)
          (try simp only [Act.put, List.getElem_toArray, List.getElem_cons_zero, List.getElem_cons_succ, List.setIfInBounds_toArray, List.set_cons_zero, List.set_cons_succ])
          refine takeSome (i := 2) (v := ?_) (by decide +kernel) rfl (by rfl) (by decide +kernel) (by decide +kernel) (fun _ _ _ h => h) (by assumption) ?_ ?_
          rotate_left
          focus (intro w0 hSw; (try dsimp only at hSw); go_simp; (try (with_reducible rfl)); done)
          (try simp only [Act.put, List.getElem_toArray, List.getElem_cons_zero, List.getElem_cons_succ, List.setIfInBounds_toArray, List.set_cons_zero, List.set_cons_succ])
          refine takeSome (i := 3) (v := ?_) (by decide +kernel) rfl (by rfl) (by decide +kernel) (by decide +kernel) (fun _ _ _ h => h) (by assumption) ?_ ?_
          rotate_left
          focus (intro w0 hSw; (try dsimp only at hSw); go_simp; (try (with_reducible rfl)); done)
          (try simp only [Act.put, List.getElem_toArray, List.getElem_cons_zero, List.getElem_cons_succ, List.setIfInBounds_toArray, List.set_cons_zero, List.set_cons_succ])
          refine takeSome (i := 4) (v := ?_) (by decide +kernel) rfl (by rfl) (by decide +kernel) (by decide +kernel) (fun _ _ _ h => h) (by assumption) ?_ ?_
          rotate_left
          focus (intro w0 hSw; (try dsimp only at hSw); go_simp; (try (with_reducible rfl)); done)
          (try simp only [Act.put, List.getElem_toArray, List.getElem_cons_zero, List.getElem_cons_succ, List.setIfInBounds_toArray, List.set_cons_zero, List.set_cons_succ])
          refine takeSome (i := 5) (v := ?_) (by decide +kernel) rfl (by rfl) (by decide +kernel) (by decide +kernel) (fun _ _ _ h => h) (by assumption) ?_ ?_
          rotate_left
          focus (intro w0 hSw; (try dsimp only at hSw); go_simp; (try (with_reducible rfl)); done)
          (try simp only [Act.put, List.getElem_toArray, List.getElem_cons_zero, List.getElem_cons_succ, List.setIfInBounds_toArray, List.set_cons_zero, List.set_cons_succ])
          refine takeSome (i := 6) (v := ?_) (by decide +kernel) rfl (by rfl) (by decide +kernel) (by decide +kernel) (fun _ _ _ h => h) (by assumption) ?_ ?_
          rotate_left
          focus (intro w0 hSw; (try dsimp only at hSw); go_simp; (try (with_reducible rfl)); done)
          (try simp only [Act.put, List.getElem_toArray, List.getElem_cons_zero, List.getElem_cons_succ, List.setIfInBounds_toArray, List.set_cons_zero, List.set_cons_succ])
          refine takeSome (i := 7) (v := ?_) (by decide +kernel) rfl (by rfl) (by decide +kernel) (by decide +kernel) (fun _ _ _ h => h) (by assumption) ?_ ?_
          rotate_left
          focus (intro w0 hSw; (try dsimp only at hSw); go_simp; (try (with_reducible rfl)); done)
          (try simp only [Act.put, List.getElem_toArray, List.getElem_cons_zero, List.getElem_cons_succ, List.setIfInBounds_toArray, List.set_cons_zero, List.set_cons_succ])
          refine wpAnyH_ready (rs := [8]) (by decide +kernel) (by simp) ?_
          refine AllReadyH.cons rfl (fun K hK => ?_) AllReadyH.nil
          (try simp only [List.getElem_toArray, List.getElem_cons_zero, List.getElem_cons_succ])
          go_simp
          (go_at_call 24; refine HLN.out.mono ?_; rintro e' wz ⟨rfl, hwz⟩; have hwz := hwz.symm; subst hwz)
          refine hK.out _ _ ?_ (fun hHeld => ?_)
          focus ((try dsimp only); exact hHeld; done)
          clear hK K
          (try simp only [Act.put, List.getElem_toArray, List.getElem_cons_zero, List.getElem_cons_succ, List.setIfInBounds_toArray, List.set_cons_zero, List.set_cons_succ])
          refine wpAnyH_ready (rs := [9]) (by decide +kernel) (by simp) ?_
          refine AllReadyH.cons rfl (fun K hK => ?_) AllReadyH.nil
          (try simp only [List.getElem_toArray, List.getElem_cons_zero, List.getElem_cons_succ])
          go_simp
          (go_at_call 44; refine HFT.out.mono ?_; rintro e' w7 ⟨rfl, hb7⟩; have HB7 := Lib.hid hb7; clear hb7)
          refine hK.out _ _ ?_ (fun hHeld => ?_)
          focus ((try dsimp only); exact ⟨(HB7.out.cell (p := ⟨y, 0, none⟩) (blk_lt HC.out.1)).trans (blk_cell HC.out.1 0), (HB7.out.cell (p := ⟨y, 1, none⟩) (blk_lt HC.out.1)).trans (blk_cell HC.out.1 1), (HB7.out.cell (p := ⟨z + 1, 0, none⟩) (blk_lt HC.out.2.1)).trans (blk_cell HC.out.2.1 0)⟩; done)
          clear hK K
          (try simp only [Act.put, List.getElem_toArray, List.getElem_cons_zero, List.getElem_cons_succ, List.setIfInBounds_toArray, List.set_cons_zero, List.set_cons_succ])
          refine takeSome (i := 10) (v := ?_) (by decide +kernel) rfl (by rfl) (by decide +kernel) (by decide +kernel) (fun _ _ _ h => h) (by assumption) ?_ ?_
          rotate_left
          focus (intro w0 hSw; (try dsimp only at hSw); go_simp; (try (with_reducible rfl)); done)
          (try simp only [Act.put, List.getElem_toArray, List.getElem_cons_zero, List.getElem_cons_succ, List.setIfInBounds_toArray, List.set_cons_zero, List.set_cons_succ])
          refine wpAnyH_done (by decide +kernel) ?_ _
          clear hHeld
          have HX2 : Hid ((mq, mr) = (fq, fr)) := Lib.hid (HX.out.trans (by unfold moreF; rw [if_pos ⟨HGT.out, hft⟩]))
          have hy7 := (HB7.out.block y (blk_lt HC.out.1)).trans HC.out.1
          have hz7 := (HB7.out.block (z + 1) (blk_lt HC.out.2.1)).trans HC.out.2.1
          have c0 := blk_cell hy7 0
          have c1 := blk_cell hy7 1
          have d0 := blk_cell hz7 0
          have d1 := blk_cell hz7 1
          have f0 := blk_frozen hz7 0
          have f1 := blk_frozen hz7 1
          have HZ7 := Lib.hid hz7
          clear hy7 hz7
          go_wp2_with fail
          go_roundg (2 - (k + 1))
          case measure => have := HKK.out; omega
          case rel =>
            refine ⟨k + 1, by go_num, by have := HKK.out; omega, rfl, Lib.hid ?_⟩
            rw [hm.out, HX2.out]
            have hg0 : Fr (fun k => k = z + 1) w7 ((w7.setCell ⟨z + 1, 0, none⟩ (.int .i64 (fq : Nat))).setCell ⟨z + 1, 1, none⟩ (.int .i64 (fr : Nat))) := (Fr.set (F := (· = z + 1)) rfl).trans (Fr.set (F := (· = z + 1)) rfl) (fun _ _ h => h)
            have hb7 := HB6.out.trans (HB7.out.mono (by have := HB6.out.size; have := HZ.out; omega))
            refine ⟨hg0.below (B := z) ?_ ?_ ?_, (hg0.2 z ?_ (by omega)).trans ((HB7.out.block z (blk_lt HC.out.2.2)).trans HC.out.2.2), ?_⟩
            · exact hb7
            · have := hb7.size; have := HZ.out; omega
            · intro k e; omega
            · have := hb7.size; have := HZ.out; exact blk_lt ((HB7.out.block z (blk_lt HC.out.2.2)).trans HC.out.2.2)
            · have := blk_set (blk_set HZ7.out 0 (.int .i64 (fq : Nat))) 1 (.int .i64 (fr : Nat))
              simpa using this
      · have hgt' : ¬ (lq : Int) < (fq : Int) := by omega
        have HX2 : Hid ((mq, mr) = (lq, lr)) := Lib.hid (HX.out.trans (by unfold moreF; rw [if_neg (by rintro ⟨e, -⟩; exact hgt e)]))
        clear hgt
        refine takeSome (i := 0) (v := ?_) (by decide +kernel) rfl (by rfl) (by decide +kernel) (by decide +kernel) (fun _ _ _ h => h) (by assumption) ?_ ?_
        rotate_left
        focus (intro w0 hSw; (try dsimp only at hSw); go_simp; (try (with_reducible rfl)); done)
        (try simp only [Act.put, List.getElem_toArray, List.getElem_cons_zero, List.setIfInBounds_toArray, List.set_cons_zero, List.set_cons_succ])
        refine takeSome (i := 1) (v := ?_) (by decide +kernel) rfl (by rfl) (by decide +kernel) (by decide +kernel) (fun _ _ _ h => h) (by assumption) ?_ ?_
        rotate_left
        focus (intro w0 hSw; (try dsimp only at hSw); go_simp; (try (with_reducible rfl)); done)
        (try simp only [Act.put, List.getElem_toArray, List.getElem_cons_zero, List.getElem_cons_succ, List.setIfInBounds_toArray, List.set_cons_zero, List.set_cons_succ])
        refine takeSome (i := 2) (v := ?_) (by decide +kernel) rfl (by rfl) (by decide +kernel) (by decide +kernel) (fun _ _ _ h => h) (by assumption) ?_ ?_
        rotate_left
        focus (intro w0 hSw; (try dsimp only at hSw); go_simp; (try (with_reducible rfl)); done)
        (try simp only [Act.put, List.getElem_toArray, List.getElem_cons_zero, List.getElem_cons_succ, List.setIfInBounds_toArray, List.set_cons_zero, List.set_cons_succ])
        refine takeSome (i := 3) (v := ?_) (by decide +kernel) rfl (by rfl) (by decide +kernel) (by decide +kernel) (fun _ _ _ h => h) (by assumption) ?_ ?_
        rotate_left
        focus (intro w0 hSw; (try dsimp only at hSw); go_simp; (try (with_reducible rfl)); done)
        (try simp only [Act.put, List.getElem_toArray, List.getElem_cons_zero, List.getElem_cons_succ, List.setIfInBounds_toArray, List.set_cons_zero, List.set_cons_succ])
        refine takeSome (i := 4) (v := ?_) (by decide +kernel) rfl (by rfl) (by decide +kernel) (by decide +kernel) (fun _ _ _ h => h) (by assumption) ?_ ?_
        rotate_left
        focus (intro w0 hSw; (try dsimp only at hSw); go_simp; (try (with_reducible rfl)); done)
        (try simp only [Act.put, List.getElem_toArray, List.getElem_cons_zero, List.getElem_cons_succ, List.setIfInBounds_toArray, List.set_cons_zero, List.set_cons_succ])
        refine takeSome (i := 5) (v := ?_) (by decide +kernel) rfl (by rfl) (by decide +kernel) (by decide +kernel) (fun _ _ _ h => h) (by assumption) ?_ ?_
        rotate_left
        focus (intro w0 hSw; (try dsimp only at hSw); go_simp; (try (with_reducible rfl)); done)
        (try simp only [Act.put, List.getElem_toArray, List.getElem_cons_zero, List.getElem_cons_succ, List.setIfInBounds_toArray, List.set_cons_zero, List.set_cons_succ])
        refine takeNone (i := 6) (by decide +kernel) rfl (by rfl) (by decide +kernel) (by decide +kernel) (fun _ _ _ h => h) (by assumption) ?_
        (try simp only [Act.put, List.getElem_toArray, List.getElem_cons_zero, List.getElem_cons_succ, List.setIfInBounds_toArray, List.set_cons_zero, List.set_cons_succ])
        refine takeNone (i := 7) (by decide +kernel) rfl (by rfl) (by decide +kernel) (by decide +kernel) (fun _ _ _ h => h) (by assumption) ?_
        (try simp only [Act.put, List.getElem_toArray, List.getElem_cons_zero, List.getElem_cons_succ, List.setIfInBounds_toArray, List.set_cons_zero, List.set_cons_succ])
        refine takeNone (i := 8) (by decide +kernel) rfl (by rfl) (by decide +kernel) (by decide +kernel) (fun _ _ _ h => h) (by assumption) ?_
        (try simp only [Act.put, List.getElem_toArray, List.getElem_cons_zero, List.getElem_cons_succ, List.setIfInBounds_toArray, List.set_cons_zero, List.set_cons_succ])
        refine takeNone (i := 9) (by decide +kernel) rfl (by rfl) (by decide +kernel) (by decide +kernel) (fun _ _ _ h => h) (by assumption) ?_
        (try simp only [Act.put, List.getElem_toArray, List.getElem_cons_zero, List.getElem_cons_succ, List.setIfInBounds_toArray, List.set_cons_zero, List.set_cons_succ])
        refine takeSome (i := 10) (v := ?_) (by decide +kernel) rfl (by rfl) (by decide +kernel) (by decide +kernel) (fun _ _ _ h => h) (by assumption) ?_ ?_
        rotate_left
        focus (intro w0 hSw; (try dsimp only at hSw); go_simp; (try (with_reducible rfl)); done)
        (try simp only [Act.put, List.getElem_toArray, List.getElem_cons_zero, List.getElem_cons_succ, List.setIfInBounds_toArray, List.set_cons_zero, List.set_cons_succ])
        refine wpAnyH_done (by decide +kernel) ?_ _
        clear hHeld
        go_wp2_with fail
        go_roundg (2 - (k + 1))
        case measure => have := HKK.out; omega
        case rel =>
          refine ⟨k + 1, by go_num, by have := HKK.out; omega, rfl, Lib.hid ?_⟩
          rw [hm.out, HX2.out]
          exact ⟨HB6.out, HC.out.2.2, HC.out.2.1⟩
    · have k1 : ¬ (k : Int) < 2 := by omega
      obtain rfl : k = 2 := by omega
      obtain ⟨lq, lr, hl⟩ : ∃ a b, lastK st.sz st.log 2 = (a, b) := ⟨_, _, rfl⟩
      have HR2 := HR.out
      rw [hl] at HR2
      have HL : Hid (lastF st.sz st.log = (lq, lr)) := Lib.hid hl
      obtain ⟨h1, h2, h3⟩ := HR2
      have c0 := blk_cell h3 0
      have c1 := blk_cell h3 1
      have d0 := blk_cell h2 0
      have d1 := blk_cell h2 1
      have f0 := blk_frozen h2 0
      have f1 := blk_frozen h2 1
      have H1 := Lib.hid h1
      have H2 := Lib.hid h2
      clear h1 h2 h3 hl HR
      go_wp2_with fail
      have hfin : ((wr.setCell ⟨z, 0, none⟩ (.int .i64 (lq : Nat))).setCell ⟨z, 1, none⟩ (.int .i64 (lr : Nat))).heap[z]? = some (.cells #[.int .i64 (lq : Nat), .int .i64 (lr : Nat)] 64 (0, 0)) := by
        have := blk_set (blk_set H2.out 0 (.int .i64 (lq : Nat))) 1 (.int .i64 (lr : Nat))
        simpa using this
      have hg0 : Fr (fun k => k = z) wr ((wr.setCell ⟨z, 0, none⟩ (.int .i64 (lq : Nat))).setCell ⟨z, 1, none⟩ (.int .i64 (lr : Nat))) := (Fr.set (F := (· = z)) rfl).trans (Fr.set (F := (· = z)) rfl) (fun _ _ h => h)
      obtain ⟨wf, hwf⟩ : ∃ w, (wr.setCell ⟨z, 0, none⟩ (.int .i64 (lq : Nat))).setCell ⟨z, 1, none⟩ (.int .i64 (lr : Nat)) = w := ⟨_, rfl⟩
      rw [hwf] at hfin hg0 ⊢
      refine bodyPost_ret (v := .tuple #[.agg #[.int .i64 (lq : Nat), .int .i64 (lr : Nat)], .int .i64 0]) ?_ rfl ?_
      · have k0 : wf.cell? ⟨z, 0, none⟩ = some (.int .i64 (lq : Nat)) := blk_cell hfin 0
        have k1 : wf.cell? ⟨z, 1, none⟩ = some (.int .i64 (lr : Nat)) := blk_cell hfin 1
        simp [results, Tryd.results25, go_sem, asAddr, k0, k1, Result.andThen]
      · rw [HL.out]
        refine ⟨rfl, ?_⟩
        rw [HZ.out]
        exact hg0.below H1.out (by have := H1.out.size; have := HZ.out; omega) (fun k e => by omega)
end Go.Proofs.YtfjiceoagenfnaaDoor
