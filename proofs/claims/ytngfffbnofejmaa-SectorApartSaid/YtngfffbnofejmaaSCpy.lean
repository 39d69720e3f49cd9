/- Layer sector: copies of disks. -/
import Derived.Test.YtngfffbnofejmaaSUns
namespace Go.Proofs.Ytngfffbnofejmaa
open Go.RowKit Go.Lib Go.ChangeMaps Go.MapKept

theorem lastW_none {l : List Wr} {n i : Nat} (h : ∀ w ∈ l, w.1 < n) (hi : n ≤ i) : lastW l i = none := by
  cases e : lastW l i with
  | none => rfl
  | some s => have := h _ (lastW_mem l e); omega
/-- A disk of which only what is sure was copied. -/
def sureS (st : DS) : DS := ⟨st.sz, st.sure, st.sure.length, st.left, st.out⟩
theorem sureS_un (st : DS) : (sureS st).un = [] := List.drop_length
theorem sureS_sure (st : DS) : (sureS st).sure = st.sure := List.take_length
theorem sureS_ok {st : DS} (h : st.ok) : (sureS st).ok := ⟨Nat.le_refl _, fun w hw => h.2.1 w (List.mem_of_mem_take hw), h.2.2.1, h.2.2.2⟩
set_option maxRecDepth 10000 in
set_option maxHeartbeats 4000000 in
theorem Copy_any {W : World} {T : Nat → Prop} {st : DS} {g : Nat} (h : Dk W T st g) (hn : st.log.length ≤ 50000) :
    Calls Try.prog 10 #[.pointer (some ⟨g, 0, none⟩)] W fun e w' => DkNew W w' st e id := by
  have HK := Lib.hid h
  have HN := Lib.hid hn
  obtain ⟨ms, ml, v, S, L, U, h⟩ := h
  have HH := Lib.hid h
  have HD := Lib.hid (disk_any W st.out st.left st.sz h.ok.2.2.1 h.ok.2.2.2)
  have c0 := h.c0
  have c1 := h.c1
  have c2 := h.c2
  have HC := Lib.hid (show W.cell? ⟨g, 0, none⟩ = some (.bool st.out) ∧ W.cell? ⟨g, 1, none⟩ = some (.int .i64 (st.left : Nat)) ∧ W.cell? ⟨g, 2, none⟩ = some (.int .i64 (st.sz : Nat)) from ⟨c0, c1, c2⟩)
  clear h hn
  go_enter Try.func10, Try.ntmps10
  go_upto_region 3 with (fail)
  have hbu : Below W.heap.size W W.drew := (Below.refl _ W).drew
  have hsu : W.drew.heap.size = W.heap.size := rfl
  have hcu : W.drew.cell? ⟨g, 0, none⟩ = some (.bool st.out) ∧ W.drew.cell? ⟨g, 1, none⟩ = some (.int .i64 (st.left : Nat)) ∧ W.drew.cell? ⟨g, 2, none⟩ = some (.int .i64 (st.sz : Nat)) := HC.out
  have hdu := disk_any W.drew st.out st.left st.sz HH.out.ok.2.2.1 HH.out.ok.2.2.2
  obtain ⟨u, hu⟩ : ∃ u, W.drew = u := ⟨_, rfl⟩
  rw [hu] at hbu hsu hcu hdu
  have HBU := Lib.hid hbu
  have HSU := Lib.hid hsu
  have HDU := Lib.hid hdu
  have HCU := Lib.hid hcu
  clear hbu hsu hdu hcu HD c0 c1 c2
  refine wp_region_held_drew (S := fun W => W.cell? ⟨g, 0, none⟩ = some (.bool st.out) ∧ W.cell? ⟨g, 1, none⟩ = some (.int .i64 (st.left : Nat)) ∧ W.cell? ⟨g, 2, none⟩ = some (.int .i64 (st.sz : Nat))) (by kernel_rfl) ?_ (fun hHeld => ?_)
  · (try dsimp only)
    rw [hu]
    exact HCU.out
  rw [hu] at hHeld ⊢
  clear hu
  refine takeSome (i := 0) (v := ?_) (by decide +kernel) rfl (by rfl) (by decide +kernel) (by decide +kernel) (fun _ _ _ h => h) (by assumption) ?_ ?_
  rotate_left
  focus (intro w0 hSw; (try dsimp only at hSw); go_simp; (try (with_reducible rfl)); done)
  (try simp only [Act.put, List.getElem_toArray, List.getElem_cons_zero, List.setIfInBounds_toArray, List.set_cons_zero, List.set_cons_succ])
  refine takeSome (i := 1) (v := ?_) (by decide +kernel) rfl (by rfl) (by decide +kernel) (by decide +kernel) (fun _ _ _ h => h) (by assumption) ?_ ?_
  rotate_left
  focus (intro w0 hSw; (try dsimp only at hSw); go_simp; (try (with_reducible rfl)); done)
  (try simp only [Act.put, List.getElem_toArray, List.getElem_cons_zero, List.getElem_cons_succ, List.setIfInBounds_toArray, List.set_cons_zero, List.set_cons_succ])
  refine takeSome (i := 2) (v := ?_) (by decide +kernel) rfl (by rfl) (by decide +kernel) (by decide +kernel) (fun _ _ _ h => h) (by assumption) ?_ ?_
  rotate_left
  focus (intro w0 hSw; (try dsimp only at hSw); go_simp; (try (with_reducible rfl)); done)
  (try simp only [Act.put, List.getElem_toArray, List.getElem_cons_zero, List.getElem_cons_succ, List.setIfInBounds_toArray, List.set_cons_zero, List.set_cons_succ])
  refine takeSome (i := 3) (v := ?_) (by decide +kernel) rfl (by rfl) (by decide +kernel) (by decide +kernel) (fun _ _ _ h => h) (by assumption) ?_ ?_
  rotate_left
  focus (intro w0 hSw; (try dsimp only at hSw); go_simp; (try (with_reducible rfl)); done)
  (try simp only [Act.put, List.getElem_toArray, List.getElem_cons_zero, List.getElem_cons_succ, List.setIfInBounds_toArray, List.set_cons_zero, List.set_cons_succ])
  refine takeSome (i := 4) (v := ?_) (by decide +kernel) rfl (by rfl) (by decide +kernel) (by decide +kernel) (fun _ _ _ h => h) (by assumption) ?_ ?_
  rotate_left
  focus (intro w0 hSw; (try dsimp only at hSw); go_simp; (try (with_reducible rfl)); done)
  (try simp only [Act.put, List.getElem_toArray, List.getElem_cons_zero, List.getElem_cons_succ, List.setIfInBounds_toArray, List.set_cons_zero, List.set_cons_succ])
  refine takeSome (i := 5) (v := ?_) (by decide +kernel) rfl (by rfl) (by decide +kernel) (by decide +kernel) (fun _ _ _ h => h) (by assumption) ?_ ?_
  rotate_left
  focus (intro w0 hSw; (try dsimp only at hSw); go_simp; (try (with_reducible rfl)); done)
  (try simp only [Act.put, List.getElem_toArray, List.getElem_cons_zero, List.getElem_cons_succ, List.setIfInBounds_toArray, List.set_cons_zero, List.set_cons_succ])
  refine takeSome (i := 6) (v := ?_) (by decide +kernel) rfl (by rfl) (by decide +kernel) (by decide +kernel) (fun _ _ _ h => h) (by assumption) ?_ ?_
  rotate_left
  focus (intro w0 hSw; (try dsimp only at hSw); go_simp; (try (with_reducible rfl)); done)
  (try simp only [Act.put, List.getElem_toArray, List.getElem_cons_zero, List.getElem_cons_succ, List.setIfInBounds_toArray, List.set_cons_zero, List.set_cons_succ])
  refine takeSome (i := 7) (v := ?_) (by decide +kernel) rfl (by rfl) (by decide +kernel) (by decide +kernel) (fun _ _ _ h => h) (by assumption) ?_ ?_
  rotate_left
  focus (intro w0 hSw; (try dsimp only at hSw); go_simp; (try (with_reducible rfl)); done)
  (try simp only [Act.put, List.getElem_toArray, List.getElem_cons_zero, List.getElem_cons_succ, List.setIfInBounds_toArray, List.set_cons_zero, List.set_cons_succ])
  refine wpAnyH_ready (rs := [8]) (by decide +kernel) (by simp) ?_
  refine AllReadyH.cons rfl (fun K hK => ?_) AllReadyH.nil
  (try simp only [List.getElem_toArray, List.getElem_cons_zero, List.getElem_cons_succ])
  go_simp
  (go_at_call 25; refine HDU.out.mono ?_; rintro e' w1 ⟨g2, T2, he, hb2, ht2, hd2⟩; replace he : e' = .returned (.pointer (some ⟨g2, 0, none⟩)) := he; subst he; have hcc : ∀ i, w1.cell? ⟨g, i, none⟩ = u.cell? ⟨g, i, none⟩ := fun i => hb2.cell (p := ⟨g, i, none⟩) (by rw [HSU.out]; exact blk_lt HH.out.blk))
  refine hK.out _ _ ?_ (fun hHeld => ?_)
  focus ((try dsimp only); exact ⟨(hcc 0).trans HCU.out.1, (hcc 1).trans HCU.out.2.1, (hcc 2).trans HCU.out.2.2⟩; done)
  clear hK K
  (try simp only [Act.put, List.getElem_toArray, List.getElem_cons_zero, List.getElem_cons_succ, List.setIfInBounds_toArray, List.set_cons_zero, List.set_cons_succ])
  refine takeSome (i := 9) (v := ?_) (by decide +kernel) rfl (by rfl) (by decide +kernel) (by decide +kernel) (fun _ _ _ h => h) (by assumption) ?_ ?_
  rotate_left
  focus (intro w0 hSw; (try dsimp only at hSw); go_simp; (try (with_reducible rfl)); done)
  (try simp only [Act.put, List.getElem_toArray, List.getElem_cons_zero, List.getElem_cons_succ, List.setIfInBounds_toArray, List.set_cons_zero, List.set_cons_succ])
  refine wpAnyH_done (by decide +kernel) ?_ _
  clear hHeld
  have k2 : w1.cell? ⟨g, 2, none⟩ = some (.int .i64 (st.sz : Nat)) := (hcc 2).trans HCU.out.2.2
  have hb1 := HBU.out.trans (hb2.mono HBU.out.size)
  have hd2' : Dk w1 (Fresh W w1) ⟨st.sz, [], 0, st.left, st.out⟩ g2 := by
    have h2 := hd2.ter
    exact hd2.grow (Below.refl _ _) (fun k e => ⟨by have := ht2 k e; have := HSU.out; omega, h2 k e⟩) (Fresh.ter _ _)
  have HB1 := Lib.hid hb1
  obtain ⟨ms2, ml2, v2, S0, L0, U0, ho⟩ := hd2'
  have HO := Lib.hid ho
  have HSZ := Lib.hid HH.out.ok.2.2.2
  clear hcc hb2 ht2 hd2 hb1 ho
  go_wp2_with fail
  go_loopg [24] st.sz (fun m i wr => ∃ (k : Nat) (S' : List (Int × SV)), i = .int .i64 k ∧ k ≤ st.sz ∧ m = st.sz - k ∧ Hid (Below W.heap.size W wr ∧ Fr (· = ms2) w1 wr ∧ MapIs wr ms2 iv SV.v In64 S' ∧ (∀ p ∈ S', SvAt wr (Fresh W wr) p.2) ∧ Holds S' (fun i => if i < k then lastW st.sure i else none)))
  case atStart => exact ⟨0, S0, rfl, Nat.zero_le _, rfl, Lib.hid ⟨HB1.out, Fr.refl _ _, HO.out.ms.map, HO.out.ms.sv, HO.out.sure⟩⟩
  case round =>
    obtain ⟨k, S', rfl, hk, rfl, HR⟩ := hrel
    by_cases hlt : k < st.sz
    · have hl1 : (k : Int) < (st.sz : Int) := by omega
      have HI := Lib.hid (show In64 (k : Int) by have := HSZ.out; unfold In64; omega)
      have HKK := Lib.hid hk
      have k3 : wr.cell? ⟨g, 3, none⟩ = some (.map (some ms)) := (HR.out.1.cell (p := ⟨g, 3, none⟩) (blk_lt HH.out.blk)).trans HH.out.c3
      have HMS := Lib.hid (HH.out.ms.map.on HR.out.1 HH.out.ms.map.lt)
      have hw1 := wrap_in (n := (k : Int) + 1) (by have := HSZ.out; omega) (by have := HSZ.out; omega)
      by_cases hs : (k : Int) ∈ S.map Prod.fst
      · go_upto_region 9 with (refine wp_look_yes (z := noSv) (by rfl) _ _ 63 rfl 43 keyI Try.underlying63 (zeroSv _) ms (by rfl) HMS.out HI.out hs (by rfl) ?_; intro y hy; have HY := Lib.hid hy; clear hy)
        have hgm : ¬ g2 = ms2 := fun e => map_cells HO.out.ms.map HO.out.blk e.symm
        have HG2 := Lib.hid hgm
        have hbw : Below wr.heap.size wr wr.drew := (Below.refl _ wr).drew
        have kc : wr.drew.cell? ⟨g2, 3, none⟩ = some (.map (some ms2)) := (HR.out.2.1.cell (p := ⟨g2, 3, none⟩) (blk_lt HO.out.blk) hgm).trans HO.out.c3
        have hml : MapIs wr.drew ms2 iv SV.v In64 S' := HR.out.2.2.1.drew
        obtain ⟨u2, hu2⟩ : ∃ u, wr.drew = u := ⟨_, rfl⟩
        rw [hu2] at hbw kc hml
        have hgl : g2 < u2.heap.size := by have := blk_lt HO.out.blk; have := HR.out.2.1.1.size; have := hbw.size; omega
        have HYS : Hid (SvAt u2 T y) := Lib.hid ((HH.out.ms.sv _ HY.out).on (fun _ h => h) (fun j h1 _ => (HR.out.1.trans (hbw.mono HR.out.1.size)).block j (HH.out.ter j h1)))
        have HE : Hid (lastW st.sure k = some y.bs) := by
          obtain ⟨i2, e1, e2⟩ := HH.out.sure.1 _ HY.out
          obtain rfl : k = i2 := by have : (k : Int) = (i2 : Int) := e1; omega
          exact Lib.hid e2
        have HKC := Lib.hid kc
        have HML := Lib.hid hml
        have HBW := Lib.hid hbw
        have HGL := Lib.hid hgl
        clear hgm hbw kc hml hgl k3
        refine wp_region_held_drew (S := fun W => W.cell? ⟨g2, 3, none⟩ = some (.map (some ms2))) (by kernel_rfl) ?_ (fun hHeld => ?_)
        · (try dsimp only)
          rw [hu2]
          exact HKC.out
        rw [hu2] at hHeld ⊢
        clear hu2
        refine takeSome (i := 0) (v := ?_) (by decide +kernel) rfl (by rfl) (by decide +kernel) (by decide +kernel) (fun _ _ _ h => h) (by assumption) ?_ ?_
        rotate_left
        focus (intro w0 hSw; (try dsimp only at hSw); go_simp; (try (with_reducible rfl)); done)
        (try simp only [Act.put, List.getElem_toArray, List.getElem_cons_zero, List.setIfInBounds_toArray, List.set_cons_zero, List.set_cons_succ])
        refine takeSome (i := 1) (v := ?_) (by decide +kernel) rfl (by rfl) (by decide +kernel) (by decide +kernel) (fun _ _ _ h => h) (by assumption) ?_ ?_
        rotate_left
        focus (intro w0 hSw; (try dsimp only at hSw); go_simp; (try (with_reducible rfl)); done)
        (try simp only [Act.put, List.getElem_toArray, List.getElem_cons_zero, List.getElem_cons_succ, List.setIfInBounds_toArray, List.set_cons_zero, List.set_cons_succ])
        refine takeSome (i := 2) (v := ?_) (by decide +kernel) rfl (by rfl) (by decide +kernel) (by decide +kernel) (fun _ _ _ h => h) (by assumption) ?_ ?_
        rotate_left
        focus (intro w0 hSw; (try dsimp only at hSw); go_simp; (try (with_reducible rfl)); done)
        (try simp only [Act.put, List.getElem_toArray, List.getElem_cons_zero, List.getElem_cons_succ, List.setIfInBounds_toArray, List.set_cons_zero, List.set_cons_succ])
        refine takeSome (i := 3) (v := ?_) (by decide +kernel) rfl (by rfl) (by decide +kernel) (by decide +kernel) (fun _ _ _ h => h) (by assumption) ?_ ?_
        rotate_left
        focus (intro w0 hSw; (try dsimp only at hSw); go_simp; (try (with_reducible rfl)); done)
        (try simp only [Act.put, List.getElem_toArray, List.getElem_cons_zero, List.getElem_cons_succ, List.setIfInBounds_toArray, List.set_cons_zero, List.set_cons_succ])
        refine takeSome (i := 4) (v := ?_) (by decide +kernel) rfl (by rfl) (by decide +kernel) (by decide +kernel) (fun _ _ _ h => h) (by assumption) ?_ ?_
        rotate_left
        focus (intro w0 hSw; (try dsimp only at hSw); go_simp; (try (with_reducible rfl)); done)
        (try simp only [Act.put, List.getElem_toArray, List.getElem_cons_zero, List.getElem_cons_succ, List.setIfInBounds_toArray, List.set_cons_zero, List.set_cons_succ])
        refine takeSome (i := 5) (v := ?_) (by decide +kernel) rfl (by rfl) (by decide +kernel) (by decide +kernel) (fun _ _ _ h => h) (by assumption) ?_ ?_
        rotate_left
        focus (intro w0 hSw; (try dsimp only at hSw); go_simp; (try (with_reducible rfl)); done)
        (try simp only [Act.put, List.getElem_toArray, List.getElem_cons_zero, List.getElem_cons_succ, List.setIfInBounds_toArray, List.set_cons_zero, List.set_cons_succ])
        refine wpAnyH_ready (rs := [6]) (by decide +kernel) (by simp) ?_
        refine AllReadyH.cons rfl (fun K hK => ?_) AllReadyH.nil
        (try simp only [List.getElem_toArray, List.getElem_cons_zero, List.getElem_cons_succ])
        go_simp
        (go_at_call 26; refine (Clone_sv HYS.out).mono ?_; rintro e' w3 ⟨v3, rfl, hr3⟩; obtain ⟨x3, ev, hx3, hsv⟩ := hr3.sv HYS.out.2.1; subst ev; have HX3 := Lib.hid hx3; have HSV := Lib.hid hsv; have HB3 := Lib.hid hr3.1; have HC3 := Lib.hid ((hr3.1.cell (p := ⟨g2, 3, none⟩) HGL.out).trans HKC.out); have HM3 := Lib.hid (HML.out.on hr3.1 HML.out.lt); clear hx3 hsv hr3)
        refine hK.out _ _ ?_ (fun hHeld => ?_)
        focus ((try dsimp only); exact HC3.out; done)
        clear hK K
        (try simp only [Act.put, List.getElem_toArray, List.getElem_cons_zero, List.getElem_cons_succ, List.setIfInBounds_toArray, List.set_cons_zero, List.set_cons_succ])
        refine wpAnyH_ready (rs := [7]) (by decide +kernel) (by simp) ?_
        refine AllReadyH.cons rfl (fun K hK => ?_) AllReadyH.nil
        refine step_putS (k := (k : Int)) (y := x3) (by rfl) _ _ _ rfl (by rfl) HM3.out HI.out (by rfl) (by rfl) ?_; intro w4 L4 hm4 hp4 hg4 hs4; have hf4 : Fr (· = ms2) w3 w4 := Fr.grew hg4 (fun k e => (Option.some.inj e).symm)
        refine hK.out _ _ ?_ (fun hHeld => ?_)
        focus ((try dsimp only); exact (hf4.cell (p := ⟨g2, 3, none⟩) (Nat.lt_of_lt_of_le HGL.out HB3.out.size) HG2.out).trans HC3.out; done)
        clear hK K
        (try simp only [Act.put, List.getElem_toArray, List.getElem_cons_zero, List.getElem_cons_succ])
        refine wpAnyH_done (by decide +kernel) ?_ _
        clear hHeld
        have HF4 := Lib.hid hf4
        have HM4 := Lib.hid hm4
        have HP4 := Lib.hid hp4
        have HB13 := Lib.hid ((HR.out.1.trans (HBW.out.mono HR.out.1.size)).trans (HB3.out.mono (by have := HR.out.1.size; have := HBW.out.size; omega)))
        have HB4 := Lib.hid (HF4.out.below HB13.out HB13.out.size (fun k e => by subst e; exact HO.out.ms.ter.1))
        have HF14 : Hid (Fr (· = ms2) w1 w4) := Lib.hid ((HR.out.2.1.trans (Fr.of HBW.out) (fun _ _ e => e)).trans ((Fr.of HB3.out).trans HF4.out (fun _ _ e => e)) (fun _ _ e => e))
        have HS4 : Hid (∀ p ∈ L4, SvAt w4 (Fresh W w4) p.2) := by
          refine Lib.hid fun p hp => ?_
          have hz : w3.heap.size ≤ w4.heap.size := HF4.out.1.size
          have hz1 := HBW.out.size
          have hz2 := HB3.out.size
          have hz3 := HR.out.1.size
          rcases (HP4.out p).1 hp with rfl | ⟨h1, -⟩
          · exact (HSV.out (Fresh u2 w3) (fun k h1 h2 => ⟨h1, h2⟩)).on (fun k e => ⟨by have := e.1; omega, by have := e.2; omega⟩) (fun k h1 h2 => HF4.out.2 k h1.2 (fun e => by subst e; exact map_noByte HM3.out h2))
          · refine (HR.out.2.2.2.1 p h1).on (fun k e => ⟨e.1, by have := e.2; omega⟩) (fun k h1 h2 => ?_)
            have e1 : w3.heap[k]? = wr.heap[k]? := (HB3.out.block k (by have := h1.2; omega)).trans (HBW.out.block k h1.2)
            exact (HF4.out.2 k (by have := h1.2; omega) (fun e => by subst e; exact map_noByte HR.out.2.2.1 h2)).trans e1
        clear hf4 hm4 hp4 hg4 hs4
        go_wp2_with fail
        go_roundg (st.sz - (k + 1))
        case measure => have := HKK.out; omega
        case rel =>
          refine ⟨k + 1, L4, by go_num, by omega, rfl, Lib.hid ⟨HB4.out, HF14.out, HM4.out, HS4.out, HR.out.2.2.2.2.put HP4.out (fun j => ?_)⟩⟩
          show (if j < k + 1 then lastW st.sure j else none) = if k = j then some x3.bs else if j < k then lastW st.sure j else none
          by_cases h1 : k = j
          · subst h1
            rw [if_pos (by omega), if_pos rfl, HE.out, HX3.out]
          · rw [if_neg h1]
            by_cases h2 : j < k
            · rw [if_pos h2, if_pos (by omega)]
            · rw [if_neg h2, if_neg (by omega)]
      · have HNS := Lib.hid (HH.out.sure.2 k hs)
        go_wp2_with (refine wp_look_no (z := noSv) (by rfl) _ _ 63 rfl 43 keyI Try.underlying63 (zeroSv _) ms (by rfl) HMS.out HI.out hs (by rfl) ?_)
        go_roundg (st.sz - (k + 1))
        case measure => have := HKK.out; omega
        case rel =>
          refine ⟨k + 1, S', by go_num, by omega, rfl, Lib.hid ⟨HR.out.1, HR.out.2.1, HR.out.2.2.1, HR.out.2.2.2.1, ?_⟩⟩
          have h5 := HR.out.2.2.2.2
          have e5 : (fun i => if i < k + 1 then lastW st.sure i else none) = (fun i => if i < k then lastW st.sure i else none) := by
            funext i
            by_cases h1 : i < k
            · rw [if_pos h1, if_pos (by omega)]
            · rw [if_neg h1]
              by_cases h2 : i < k + 1
              · rw [if_pos h2, show i = k by omega, HNS.out]
              · rw [if_neg h2]
          rw [e5]
          exact h5
    · obtain rfl : k = st.sz := by omega
      have hl1 : ¬ (st.sz : Int) < (st.sz : Int) := by omega
      have hfs : (fun i => if i < st.sz then lastW st.sure i else none) = lastW st.sure := by
        funext i
        by_cases h1 : i < st.sz
        · rw [if_pos h1]
        · rw [if_neg h1]
          exact (lastW_none (fun w hw => (HH.out.ok.2.1 w (List.mem_of_mem_take hw)).1) (by omega)).symm
      have hgm : ¬ g2 = ms2 := fun e => map_cells HO.out.ms.map HO.out.blk e.symm
      have hnb : ∀ k, k = ms2 → ¬ ByteB w1 k := fun k e => by subst e; exact map_noByte HO.out.ms.map
      have hz := HR.out.2.1.1.size
      have hT : ∀ k, Fresh W w1 k → Fresh W wr k := Fresh.more hz
      have hd : Dk wr (Fresh W wr) (sureS st) g2 := by
        refine ⟨ms2, ml2, v2, S', L0, U0, ?_⟩
        have hml := HO.out.ml.fr HO.out.ter HR.out.2.1 hnb HO.out.ne.symm
        have hrow := HO.out.row.fr HO.out.ter HR.out.2.1 hnb (fun k e e2 => HO.out.row.neMap e HO.out.ms.map e2)
        exact { ok := sureS_ok HH.out.ok, ter := Fresh.ter _ _, here := hT _ HO.out.here, blk := (HR.out.2.1.2 g2 (blk_lt HO.out.blk) hgm).trans HO.out.blk, ne := HO.out.ne,
                ms := { map := HR.out.2.2.1, ter := hT _ HO.out.ms.ter, sv := HR.out.2.2.2.1 },
                ml := hml.on hT (fun _ _ => rfl), row := hrow.on hT (fun _ _ => rfl),
                un := HO.out.un.trans (sureS_un st).symm, sure := by rw [sureS_sure, ← hfs]; exact HR.out.2.2.2.2,
                late := by rw [sureS_un]; exact HO.out.late }
      have HD3 := Lib.hid hd
      have HKW := Lib.hid (Unsure_any (HK.out.grow (W' := wr) (HR.out.1.mono (by omega)) (fun _ h => h) (HK.out.ter.on HR.out.1.size)) (by have := HN.out; omega))
      have HB5 := Lib.hid HR.out.1
      clear hfs hgm hnb hz hT hd HR
      go_wp2_with (go_at_call 18; refine HKW.out.mono ?_; rintro e' w2 ⟨vv, V, rfl, hbv, hlv, hwv⟩; obtain ⟨A7, c7, ev7⟩ := hlv.shape; subst ev7; have HBV := Lib.hid hbv; have HLV := Lib.hid hlv; have HWV := Lib.hid hwv; clear hbv hlv hwv)
      have HVL : Hid (V.length ≤ 50000) := by
        have h1 := congrArg List.length HWV.out
        rw [List.length_map] at h1
        unfold DS.un at h1
        rw [List.length_drop] at h1
        exact Lib.hid (by have := HN.out; omega)
      have hT0 : Dk w2 (fun k => Fresh W wr k ∨ (Fresh wr w2 k ∧ ByteB w2 k)) (sureS st) g2 := HD3.out.grow HBV.out (fun k e => .inl e) (fun k e => e.elim (fun e => by have := e.2; have := HBV.out.size; omega) (fun e => e.1.2))
      have hV0 : ∀ x ∈ V, SvAt w2 (fun k => Fresh W wr k ∨ (Fresh wr w2 k ∧ ByteB w2 k)) x.2 := fun x hx => by
        obtain ⟨q1, q2, q3, q4⟩ := HLV.out.sv x hx
        exact ⟨q1, q2, q3, fun ad e => ⟨.inr (q4 ad e), (q4 ad e).2⟩⟩
      have HT0 := Lib.hid hT0
      have HV0 := Lib.hid hV0
      have HRB : Hid (∀ k, (Value.slice A7 V.length c7).ownBlock = some k → ¬ (Fresh W wr k ∨ (Fresh wr w2 k ∧ ByteB w2 k)) ∧ k < w2.heap.size) := Lib.hid fun k e => by
        have h1 := HLV.out.ter k e
        refine ⟨fun e2 => ?_, h1.2⟩
        rcases e2 with e2 | e2
        · have := e2.2; have := h1.1; omega
        · exact HLV.out.noByte e e2.2
      have HBW2 := Lib.hid (HB5.out.trans (HBV.out.mono HB5.out.size))
      clear hT0 hV0
      generalize hgT : (fun k => Fresh W wr k ∨ (Fresh wr w2 k ∧ ByteB w2 k)) = T0 at *
      have HT0W : Hid (∀ k, T0 k → W.heap.size ≤ k) := Lib.hid fun k e => by
        rw [← hgT] at e
        rcases e with e | e
        · exact e.1
        · have := e.1.1; have := HB5.out.size; omega
      have HRB2 : Hid (∀ k, (Value.slice A7 V.length c7).ownBlock = some k → ¬ T0 k ∧ k < w2.heap.size) := by rw [← hgT]; exact HRB
      clear HRB hgT
      go_loopg [48] V.length (fun m i wq => ∃ (k : Nat) (T' : Nat → Prop), i = .int .i64 k ∧ k ≤ V.length ∧ m = V.length - k ∧ Hid (Below W.heap.size W wq ∧ w2.heap.size ≤ wq.heap.size ∧ Ext w2 T0 T' ∧ Dk wq T' ⟨st.sz, st.sure ++ st.un.take k, st.sure.length, st.left, st.out⟩ g2 ∧ LogAt wq (fun j => j < w2.heap.size) (.slice A7 V.length c7) V ∧ ∀ x ∈ V, SvAt wq T' x.2))
      case atStart => exact ⟨0, T0, rfl, Nat.zero_le _, rfl, Lib.hid ⟨HBW2.out, Nat.le_refl _, Ext.refl _ _, by rw [List.take_zero, List.append_nil]; exact HT0.out, HLV.out.on (fun _ e => e.2) (fun _ _ => rfl), HV0.out⟩⟩
      case round =>
        obtain ⟨k, T', rfl, hk, rfl, HR⟩ := hrel
        by_cases hlt : k < V.length
        · have hl2 : (k : Int) < (V.length : Int) := by omega
          have hl0 : (0 : Int) ≤ (k : Int) := by omega
          have HKK := Lib.hid hk
          obtain ⟨b, c', ev, k0, k1⟩ := HR.out.2.2.2.2.1.get hlt
          injection ev with e1 e2 e3
          subst e1
          subst e3
          have HW := Lib.hid (show st.un.take (k + 1) = st.un.take k ++ [WV.w V[k]] by
            rw [← HWV.out, List.take_add_one, List.getElem?_map, List.getElem?_eq_getElem hlt]; rfl)
          have HX := Lib.hid (HR.out.2.2.2.2.2 _ (List.getElem_mem hlt))
          have HXI := Lib.hid (show V[k].1 < st.sz by
            have h1 : WV.w V[k] ∈ st.un := by rw [← HWV.out]; exact List.mem_map_of_mem (List.getElem_mem hlt)
            exact (HH.out.ok.2.1 _ (List.mem_of_mem_drop h1)).1)
          generalize V[k] = x at *
          obtain ⟨xi, xA, xc, xb⟩ := x
          have hxl : xb.length = 512 := HX.out.2.1
          replace k1 : wr.cell? ⟨b, k * 2 + 1, none⟩ = some (.slice xA 512 xc) := by rw [k1, ← hxl]; rfl
          have HXL := Lib.hid hxl
          clear hxl
          have hb1 := Below.alloc (Below.refl wr.heap.size wr) (Nat.le_refl _) (Obj.cells #[.int .i64 (xi : Nat), .slice xA 512 xc] 51 (0, 0))
          have hn1 := heap_alloc_new wr (Obj.cells #[.int .i64 (xi : Nat), .slice xA 512 xc] 51 (0, 0))
          obtain ⟨u5, hu5⟩ : ∃ u, wr.alloc (Obj.cells #[.int .i64 (xi : Nat), .slice xA 512 xc] 51 (0, 0)) = u := ⟨_, rfl⟩
          obtain ⟨bb, hbb⟩ : ∃ bb, wr.heap.size = bb := ⟨_, rfl⟩
          rw [hu5] at hb1 hn1
          have HB1' := Lib.hid hb1
          have hT5 := HR.out.2.2.2.1.ter
          have hd5 := HR.out.2.2.2.1.grow hb1 (fun _ h => h) (hT5.on hb1.size)
          have hx5 : SvAt u5 T' ⟨xA, xc, xb⟩ := HX.out.on (fun _ h => h) (fun j h1 _ => hb1.block j (hT5 j h1))
          have hl5 := HR.out.2.2.2.2.1.on (W' := u5) (fun _ h => h) (fun j hj => hb1.block j (by have := HR.out.2.1; omega))
          have hv5 : ∀ x ∈ V, SvAt u5 T' x.2 := fun x hx => (HR.out.2.2.2.2.2 x hx).on (fun _ h => h) (fun j h1 _ => hb1.block j (hT5 j h1))
          have hP := put_any hd5 (xi, ⟨xA, xc, xb⟩) hx5 HXI.out (by
            show (st.sure ++ st.un.take k).length ≤ 100000
            have h1 : (st.sure ++ st.un.take k).length ≤ (st.sure ++ st.un).length := by rw [List.length_append, List.length_append, List.length_take]; omega
            rw [show st.sure ++ st.un = st.log from List.take_append_drop ..] at h1
            have := HN.out; omega)
          dsimp only at hP
          rw [show (⟨xA, xc, xb⟩ : SV).v = .slice xA 512 xc by rw [← HXL.out]; rfl] at hP
          have HPUT := Lib.hid hP
          have HL5 := Lib.hid hl5
          have HV5 := Lib.hid hv5
          have HT5 := Lib.hid (hT5.on hb1.size)
          have HRR := Lib.hid HR.out
          have HN1 := Lib.hid hn1
          have e0 : u5.cell? ⟨wr.heap.size, 0, none⟩ = some (.int .i64 (xi : Nat)) := blk_cell hn1 0
          have e1 : u5.cell? ⟨wr.heap.size, 1, none⟩ = some (.slice xA 512 xc) := blk_cell hn1 1
          clear hb1 hT5 hd5 hx5 hl5 hv5 hP HR hbb hn1
          have hvl := HVL.out
          have hw3 := wrap_in (n := (k : Int) + 1) (by omega) (by omega)
          go_wp2_with (go_at_call 27; refine HPUT.out.mono ?_; rintro e' w6 ⟨rfl, hd6⟩; have HD6 := Lib.hid hd6; clear hd6)
          go_roundg (V.length - (k + 1))
          case measure => have := HKK.out; omega
          case rel =>
            obtain ⟨hf6, T6, he6, hd6⟩ := HD6.out
            refine ⟨k + 1, T6, by go_num, by omega, rfl, Lib.hid ⟨?_, ?_, ?_, ?_, ?_, ?_⟩⟩
            · refine hf6.below (HRR.out.1.trans (HB1'.out.mono HRR.out.1.size)) (by have := HRR.out.1.size; have := HB1'.out.size; omega) (fun j e => ?_)
              rcases HRR.out.2.2.1.2 j e.1 with h1 | h1
              · exact HT0W.out j h1
              · have := HBW2.out.size; omega
            · have := HRR.out.2.1; have := HB1'.out.size; have := hf6.1.size; omega
            · exact HRR.out.2.2.1.trans he6 (by have := HRR.out.2.1; have := HB1'.out.size; omega)
            · rw [HW.out, ← List.append_assoc]
              exact hd6
            · refine HL5.out.fr (fun j hj => by have := HRR.out.2.1; have := HB1'.out.size; omega) hf6 (fun j e => e.2) (fun j e e2 => ?_)
              obtain ⟨q1, q2⟩ := HRB2.out j e
              rcases HRR.out.2.2.1.2 j e2.1 with h1 | h1
              · exact q1 h1
              · omega
            · exact fun x hx => (HV5.out x hx).on he6.1 (fun j h1 h2 => hf6.2 j (HT5.out j h1) (fun e => e.2 h2))
        · obtain rfl : k = V.length := by omega
          have hl2 : ¬ (V.length : Int) < (V.length : Int) := by omega
          have HRR := Lib.hid HR.out
          clear HR
          go_wp2_with fail
          go_ret
          have hu : st.un.take V.length = st.un := by
            have h1 := congrArg List.length HWV.out
            rw [List.length_map] at h1
            rw [h1]; exact List.take_length
          have hst : (⟨st.sz, st.sure ++ st.un.take V.length, st.sure.length, st.left, st.out⟩ : DS) = st := by
            rw [hu, show st.sure ++ st.un = st.log from List.take_append_drop .., show st.sure.length = st.n by unfold DS.sure; rw [List.length_take]; exact Nat.min_eq_left HH.out.ok.1]
          refine ⟨g2, T', rfl, HRR.out.1, fun j e => ?_, ?_⟩
          · rcases HRR.out.2.2.1.2 j e with h1 | h1
            · exact HT0W.out j h1
            · have := HBW2.out.size; omega
          · rw [← hst]
            exact HRR.out.2.2.2.1
end Go.Proofs.Ytngfffbnofejmaa
