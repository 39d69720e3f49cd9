/- The closure of an object: a key, a colon, a value. -/
import Derived.Test.YtmjooghfghmngaaDoorJTok
namespace Go.Proofs.YtmjooghfghmngaaDoor
open Go.RowKit Go.Shelf Go.Lib

set_option maxHeartbeats 8000000 in
theorem objClo {b n d c : Nat} {ar : Int} {A : Option Addr} {s : List UInt8} {ks : List ByteArray} {xs : List JV} {W : World} {tk : Tk} (hb : b < n) (hA : 0 < s.length → ∀ ad, A = some ad → ad.block < n) (har0 : 0 ≤ ar) (har1 : ar ≤ 31)
    (HV0 : ∀ W tk, Rd W b A c s tk.k (tk.a : Nat) tk.t tk.q → TW s tk → Calls Tryd.prog 23 #[.pointer (some ⟨b, 0, none⟩), .int .i64 (ar + 1)] W (OutV b A c s d (valN s d tk) W))
    (hR : Rd W b A c s tk.k (tk.a : Nat) tk.t tk.q) (hT : TW s tk) (hI : SeqI b n ar 7 d ks xs W) (hn : n + 4 ≤ W.heap.size) (hx : xs.length ≤ tk.a) (hkx : ks.length ≤ tk.a) :
    Calls Tryd.prog 60 #[.pointer (some ⟨n, 0, none⟩), .pointer (some ⟨n + 3, 0, none⟩), .pointer (some ⟨n + 1, 0, none⟩)] W (PartOut n b A c s ar 7 d (objPart s (valN s d) tk) ks xs W) := by
  obtain ⟨kv, lv, l, F, hS⟩ := hI
  obtain ⟨Al, cl0, rfl⟩ := row_slice4 hS.list
  obtain ⟨Ak, ck0, rfl⟩ := row_slice4 hS.keys
  obtain ⟨iV, hiV0⟩ := Option.map_eq_some_iff.1 infoV
  obtain ⟨hiV, hiE⟩ := hiV0
  obtain ⟨zV, hzV, hsV, hbV, hcV⟩ : ∃ zV, iV.zero = some zV ∧ iV.size = 4 ∧ iV.bytes = 72 ∧ zV.cells.size = 4 := by
    simp only [Prod.mk.injEq] at hiE
    exact ⟨_, hiE.1, hiE.2.1, hiE.2.2, rfl⟩
  obtain ⟨iS, hiS0⟩ := Option.map_eq_some_iff.1 infoS
  obtain ⟨hiS, hiF⟩ := hiS0
  obtain ⟨zS, hzS, hsS, hbS, hcS⟩ : ∃ zS, iS.zero = some zS ∧ iS.size = 1 ∧ iS.bytes = 16 ∧ zS.cells.size = 1 := by
    simp only [Prod.mk.injEq] at hiF
    exact ⟨_, hiF.1, hiF.2.1, hiF.2.2, rfl⟩
  have hsm := hR.small
  have hta := hT.2.1
  have htq := hT.2.2.1
  have HV := Lib.hid HV0
  have HA := Lib.hid hA
  have hbn := hb
  have hadd : IntKind.i64.wrap (ar + 1) = ar + 1 := IntWalk.i64_in _ (by omega)
  have hi0 : (0 : Int) ≤ (xs.length : Int) := by omega
  have hi1 : (xs.length : Int) < (xs.length : Int) + 1 := by omega
  have cb : W.cell? ⟨n, 0, none⟩ = some (.pointer (some ⟨b, 0, none⟩)) := blk_cell hS.box 0
  clear HV0 hA
  by_cases hk5 : tk.k = 5
  · have HWY : Hid (Calls Tryd.prog 24 #[.pointer (some ⟨b, 0, none⟩), .int .i64 5] W fun e w' => e = .returned (.tuple #[]) ∧ w' = W) := by have := want_yes hR; rw [hk5] at this; exact this
    have i0 := hS.keep hb (grew_drew (World.grownBy.refl W (some b)))
    have r0 := hR.drew
    have HFR : Hid (Fr n b W W.drew) := ⟨rfl, rfl, rfl, Nat.le_refl _, fun _ _ _ => rfl⟩
    have hnd0 : n + 4 ≤ W.drew.heap.size := hn
    have HK5 := Lib.hid hk5
    clear hS hR hk5
    go_enter Tryd.func60, Tryd.ntmps60
    go_wp2_with (go_at_call 24; (with_reducible refine HWY.out.mono ?_); rintro e' wz ⟨rfl, hwz⟩; have hwz := hwz.symm; subst hwz)
    clear cb
    go_cut [] (fun wx => ∃ h0 c0, SeqP b n ar 7 d (.slice (some ⟨h0, 0, none⟩) (ks.length + 1) c0) (.slice Al xs.length cl0) l F (ks ++ [tk.t]) xs wx ∧ Rd wx b A c s tk.k (tk.a : Nat) tk.t tk.q ∧ Fr n b W wx ∧ n + 4 ≤ wx.heap.size)
    case first =>
      refine wp_region_held_drew (S := (fun w0 => w0.cell? ⟨n, 0, none⟩ = some (.pointer (some ⟨b, 0, none⟩)) ∧ w0.cell? ⟨b, 2, none⟩ = some (.string tk.t))) (by kernel_rfl) ?_ (fun hHeld => ?_)
      · (try dsimp only)
        exact ⟨blk_cell i0.box 0, r0.cells.2.2.1⟩
      generalize (World.drew _) = W0 at i0 r0 HFR hnd0 hHeld ⊢
      refine takeSome (i := 0) (v := ?_) (by decide +kernel) rfl (by rfl) (by decide +kernel) (by decide +kernel) (fun _ _ _ h => h) (by assumption) ?_ ?_
      rotate_left
      focus (intro w0 hSw; (try dsimp only at hSw); go_simp; (try (with_reducible rfl)); done)
      (try simp only [Act.put, List.getElem_toArray, List.getElem_cons_zero, List.setIfInBounds_toArray, List.set_cons_zero, List.set_cons_succ])
      refine takeSome (i := 2) (v := ?_) (by decide +kernel) rfl (by rfl) (by decide +kernel) (by decide +kernel) (fun _ _ _ h => h) (by assumption) ?_ ?_
      rotate_left
      focus (intro w0 hSw; (try dsimp only at hSw); go_simp; (try (with_reducible rfl)); done)
      (try simp only [Act.put, List.getElem_toArray, List.getElem_cons_zero, List.getElem_cons_succ, List.setIfInBounds_toArray, List.set_cons_zero, List.set_cons_succ])
      refine takeSome (i := 3) (v := ?_) (by decide +kernel) rfl (by rfl) (by decide +kernel) (by decide +kernel) (fun _ _ _ h => h) (by assumption) ?_ ?_
      rotate_left
      focus (intro w0 hSw; (try dsimp only at hSw); go_simp; (try (with_reducible rfl)); done)
      (try simp only [Act.put, List.getElem_toArray, List.getElem_cons_zero, List.getElem_cons_succ, List.setIfInBounds_toArray, List.set_cons_zero, List.set_cons_succ])
      refine takeSome (i := 4) (v := ?_) (by decide +kernel) rfl (by rfl) (by decide +kernel) (by decide +kernel) (fun _ _ _ h => h) (by assumption) ?_ ?_
      rotate_left
      focus (intro w0 hSw; (try dsimp only at hSw); go_simp; (try (with_reducible rfl)); done)
      (try simp only [Act.put, List.getElem_toArray, List.getElem_cons_zero, List.getElem_cons_succ, List.setIfInBounds_toArray, List.set_cons_zero, List.set_cons_succ])
      refine takeSome (i := 5) (v := ?_) (by decide +kernel) rfl (by rfl) (by decide +kernel) (by decide +kernel) (fun _ _ _ h => h) (by assumption) ?_ ?_
      rotate_left
      focus (intro w0 hSw; (try dsimp only at hSw); go_simp; (try (with_reducible rfl)); done)
      (try simp only [Act.put, List.getElem_toArray, List.getElem_cons_zero, List.getElem_cons_succ, List.setIfInBounds_toArray, List.set_cons_zero, List.set_cons_succ])
      refine takeSome (i := 6) (v := ?_) (by decide +kernel) rfl (by rfl) (by decide +kernel) (by decide +kernel) (fun _ _ _ h => h) (by assumption) ?_ ?_
      rotate_left
      focus (intro w0 hSw; (try dsimp only at hSw); go_simp; (try (with_reducible rfl)); done)
      (try simp only [Act.put, List.getElem_toArray, List.getElem_cons_zero, List.getElem_cons_succ, List.setIfInBounds_toArray, List.set_cons_zero, List.set_cons_succ])
      refine wpAnyH_ready (rs := [1, 7]) (by decide +kernel) (by simp) ?_
      refine AllReadyH.cons rfl (fun K hK => ?_) (AllReadyH.cons rfl (fun K hK => ?_) AllReadyH.nil)
      · have cl : W0.cell? ⟨n + 3, 2, none⟩ = some (.slice Ak ks.length ck0) := blk_cell i0.val 2
        (try simp only [List.getElem_toArray, List.getElem_cons_zero, List.getElem_cons_succ])
        go_simp
        refine hK.out _ _ ?_ (fun hHeld => ?_)
        focus ((try dsimp only); exact ⟨blk_cell i0.box 0, r0.cells.2.2.1⟩; done)
        clear hK K
        (try simp only [Act.put, List.getElem_toArray, List.getElem_cons_zero, List.getElem_cons_succ, List.setIfInBounds_toArray, List.set_cons_zero, List.set_cons_succ])
        clear cl
        refine wpAnyH_ready (rs := [7]) (by decide +kernel) (by simp) ?_
        refine AllReadyH.cons rfl (fun K hK => ?_) AllReadyH.nil
        have hba := grew_alloc (World.grownBy.refl W0 (some b)) (Obj.cells #[.string tk.t] 9 (0, 0))
        have hbb := (Below.refl W0.heap.size W0).alloc (Nat.le_refl _) (Obj.cells #[.string tk.t] 9 (0, 0))
        have i1 := i0.keep hbn hba
        have r1 := r0.on hbb
        have f1 : Fr n b W0 (W0.alloc (Obj.cells #[.string tk.t] 9 (0, 0))) := Fr.of hba (by omega)
        have hsz := hba.size
        have hz := heap_alloc_new W0 (Obj.cells #[.string tk.t] 9 (0, 0))
        (try simp only [List.getElem_toArray, List.getElem_cons_zero, List.getElem_cons_succ])
        go_simp
        refine hK.out _ _ ?_ (fun hHeld => ?_)
        focus ((try dsimp only); exact ⟨blk_cell i1.box 0, r1.cells.2.2.1⟩; done)
        clear hK K
        (try simp only [Act.put, List.getElem_toArray, List.getElem_cons_zero, List.getElem_cons_succ, List.setIfInBounds_toArray, List.set_cons_zero, List.set_cons_succ])
        clear hba hbb
        generalize (World.alloc _ _) = W1 at i1 r1 f1 hz hsz hHeld ⊢
        generalize W0.heap.size = gz at hz ⊢
        refine wpAnyH_ready (rs := [8]) (by decide +kernel) (by simp) ?_
        refine AllReadyH.cons rfl (fun K hK => ?_) AllReadyH.nil
        refine step_append_row 1 16 9 22 iS zS Tryd.underlying22 hiS hzS hsS hbS hcS (by decide) i1.keys (by omega) (strC tk.t) rfl (by intro u hu; obtain rfl := List.mem_singleton.1 hu; rfl) gz 1 ?_ (by unfold maxLen; omega) (by omega) rfl _ _ rfl rfl rfl ?_
        · intro j u hu
          rw [blk_cell hz]
          match j, hu with
          | 0, hu => exact hu
        rintro h0 c0 W9 hrow hg hh0
        have hgb : W9.heap[n]? = _ := (hg.block n (blk_lt i1.box) (fun e => by have := i1.keys.lt _ e.symm; omega)).trans i1.box
        have hgv : W9.heap[n + 3]? = _ := (hg.block (n + 3) (blk_lt i1.val) (fun e => by have := i1.keys.lt _ e.symm; omega)).trans i1.val
        have r9 := (r1.under (⟨hg.os, hg.tape, hg.output, hg.size, fun k hk => hg.block k (by omega) (fun e => by have := i1.keys.lt _ e.symm; omega)⟩ : Below n W1 W9) hbn HA.out)
        refine hK.out _ _ ?_ (fun hHeld => ?_)
        focus ((try dsimp only); exact ⟨blk_cell hgb 0, r9.cells.2.2.1⟩; done)
        clear hK K
        (try simp only [Act.put, List.getElem_toArray, List.getElem_cons_zero, List.getElem_cons_succ, List.setIfInBounds_toArray, List.set_cons_zero, List.set_cons_succ])
        refine takeSome (i := 9) (v := ?_) (by decide +kernel) rfl (by rfl) (by decide +kernel) (by decide +kernel) (fun _ _ _ h => h) (by assumption) ?_ ?_
        rotate_left
        focus (intro w0 hSw; (try dsimp only at hSw); go_simp; (try (with_reducible rfl)); done)
        (try simp only [Act.put, List.getElem_toArray, List.getElem_cons_zero, List.getElem_cons_succ, List.setIfInBounds_toArray, List.set_cons_zero, List.set_cons_succ])
        refine wpAnyH_ready (rs := [10]) (by decide +kernel) (by simp) ?_
        refine AllReadyH.cons rfl (fun K hK => ?_) AllReadyH.nil
        have v2 : W9.cell? ⟨n + 3, 2, none⟩ = some (.slice Ak ks.length ck0) := blk_cell hgv 2
        have vf := blk_frozen hgv 2
        have ab := i1.growK (by omega) hrow hg hh0
        (try simp only [List.getElem_toArray, List.getElem_cons_zero, List.getElem_cons_succ])
        go_simp
        refine hK.out _ _ ?_ (fun hHeld => ?_)
        focus ((try dsimp only); exact ⟨blk_cell ab.1.box 0, (r1.under ab.2 hbn HA.out).cells.2.2.1⟩; done)
        clear hK K
        (try simp only [Act.put, List.getElem_toArray, List.getElem_cons_zero, List.getElem_cons_succ, List.setIfInBounds_toArray, List.set_cons_zero, List.set_cons_succ])
        refine wpAnyH_done (by decide +kernel) ?_ _
        go_wp2_with fail
        go_meet
        refine ⟨h0, c0, ab.1, r1.under ab.2 hbn HA.out, HFR.out.trans (f1.trans (Fr.below ab.2)), ?_⟩
        have h1 := ab.2.size
        omega
      · have hba := grew_alloc (World.grownBy.refl W0 (some b)) (Obj.cells #[.string tk.t] 9 (0, 0))
        have hbb := (Below.refl W0.heap.size W0).alloc (Nat.le_refl _) (Obj.cells #[.string tk.t] 9 (0, 0))
        have i1 := i0.keep hbn hba
        have r1 := r0.on hbb
        have f1 : Fr n b W0 (W0.alloc (Obj.cells #[.string tk.t] 9 (0, 0))) := Fr.of hba (by omega)
        have hsz := hba.size
        have hz := heap_alloc_new W0 (Obj.cells #[.string tk.t] 9 (0, 0))
        (try simp only [List.getElem_toArray, List.getElem_cons_zero, List.getElem_cons_succ])
        go_simp
        refine hK.out _ _ ?_ (fun hHeld => ?_)
        focus ((try dsimp only); exact ⟨blk_cell i1.box 0, r1.cells.2.2.1⟩; done)
        clear hK K
        (try simp only [Act.put, List.getElem_toArray, List.getElem_cons_zero, List.getElem_cons_succ, List.setIfInBounds_toArray, List.set_cons_zero, List.set_cons_succ])
        clear hba hbb
        generalize (World.alloc _ _) = W1 at i1 r1 f1 hz hsz hHeld ⊢
        generalize W0.heap.size = gz at hz ⊢
        refine wpAnyH_ready (rs := [1]) (by decide +kernel) (by simp) ?_
        refine AllReadyH.cons rfl (fun K hK => ?_) AllReadyH.nil
        have cl : W1.cell? ⟨n + 3, 2, none⟩ = some (.slice Ak ks.length ck0) := blk_cell i1.val 2
        (try simp only [List.getElem_toArray, List.getElem_cons_zero, List.getElem_cons_succ])
        go_simp
        refine hK.out _ _ ?_ (fun hHeld => ?_)
        focus ((try dsimp only); exact ⟨blk_cell i1.box 0, r1.cells.2.2.1⟩; done)
        clear hK K
        (try simp only [Act.put, List.getElem_toArray, List.getElem_cons_zero, List.getElem_cons_succ, List.setIfInBounds_toArray, List.set_cons_zero, List.set_cons_succ])
        clear cl
        refine wpAnyH_ready (rs := [8]) (by decide +kernel) (by simp) ?_
        refine AllReadyH.cons rfl (fun K hK => ?_) AllReadyH.nil
        refine step_append_row 1 16 9 22 iS zS Tryd.underlying22 hiS hzS hsS hbS hcS (by decide) i1.keys (by omega) (strC tk.t) rfl (by intro u hu; obtain rfl := List.mem_singleton.1 hu; rfl) gz 1 ?_ (by unfold maxLen; omega) (by omega) rfl _ _ rfl rfl rfl ?_
        · intro j u hu
          rw [blk_cell hz]
          match j, hu with
          | 0, hu => exact hu
        rintro h0 c0 W9 hrow hg hh0
        have hgb : W9.heap[n]? = _ := (hg.block n (blk_lt i1.box) (fun e => by have := i1.keys.lt _ e.symm; omega)).trans i1.box
        have hgv : W9.heap[n + 3]? = _ := (hg.block (n + 3) (blk_lt i1.val) (fun e => by have := i1.keys.lt _ e.symm; omega)).trans i1.val
        have r9 := (r1.under (⟨hg.os, hg.tape, hg.output, hg.size, fun k hk => hg.block k (by omega) (fun e => by have := i1.keys.lt _ e.symm; omega)⟩ : Below n W1 W9) hbn HA.out)
        refine hK.out _ _ ?_ (fun hHeld => ?_)
        focus ((try dsimp only); exact ⟨blk_cell hgb 0, r9.cells.2.2.1⟩; done)
        clear hK K
        (try simp only [Act.put, List.getElem_toArray, List.getElem_cons_zero, List.getElem_cons_succ, List.setIfInBounds_toArray, List.set_cons_zero, List.set_cons_succ])
        refine takeSome (i := 9) (v := ?_) (by decide +kernel) rfl (by rfl) (by decide +kernel) (by decide +kernel) (fun _ _ _ h => h) (by assumption) ?_ ?_
        rotate_left
        focus (intro w0 hSw; (try dsimp only at hSw); go_simp; (try (with_reducible rfl)); done)
        (try simp only [Act.put, List.getElem_toArray, List.getElem_cons_zero, List.getElem_cons_succ, List.setIfInBounds_toArray, List.set_cons_zero, List.set_cons_succ])
        refine wpAnyH_ready (rs := [10]) (by decide +kernel) (by simp) ?_
        refine AllReadyH.cons rfl (fun K hK => ?_) AllReadyH.nil
        have v2 : W9.cell? ⟨n + 3, 2, none⟩ = some (.slice Ak ks.length ck0) := blk_cell hgv 2
        have vf := blk_frozen hgv 2
        have ab := i1.growK (by omega) hrow hg hh0
        (try simp only [List.getElem_toArray, List.getElem_cons_zero, List.getElem_cons_succ])
        go_simp
        refine hK.out _ _ ?_ (fun hHeld => ?_)
        focus ((try dsimp only); exact ⟨blk_cell ab.1.box 0, (r1.under ab.2 hbn HA.out).cells.2.2.1⟩; done)
        clear hK K
        (try simp only [Act.put, List.getElem_toArray, List.getElem_cons_zero, List.getElem_cons_succ, List.setIfInBounds_toArray, List.set_cons_zero, List.set_cons_succ])
        refine wpAnyH_done (by decide +kernel) ?_ _
        go_wp2_with fail
        go_meet
        refine ⟨h0, c0, ab.1, r1.under ab.2 hbn HA.out, HFR.out.trans (f1.trans (Fr.below ab.2)), ?_⟩
        have h1 := ab.2.size
        omega
    case rest =>
      obtain ⟨h1, c1, i1, r1, f1, hn1⟩ := hcut
      have HF1 := Lib.hid f1
      have cb : wc.cell? ⟨n, 0, none⟩ = some (.pointer (some ⟨b, 0, none⟩)) := blk_cell i1.box 0
      have HI1 := Lib.hid i1
      have HN1 := Lib.hid (nextK r1)
      clear i0 r0 HFR hnd0 f1 i1 r1
      go_wp2_with fail
      go_at_call 22
      refine HN1.out.mono ?_
      rintro e' W2 ⟨hG2, ⟨t1, hr1, rfl, r2⟩ | ⟨a', e2, hr1, rfl⟩⟩
      · have i2 := HI1.out.keep hbn hG2
        have HF2 := Lib.hid (HF1.out.trans (Fr.of hG2 (by omega)))
        have hn2 : n + 4 ≤ W2.heap.size := Nat.le_trans hn1 hG2.size
        have hw1 := tokN_tw htq hr1
        have HR1 := Lib.hid hr1
        clear cb
        have cb : W2.cell? ⟨n, 0, none⟩ = some (.pointer (some ⟨b, 0, none⟩)) := blk_cell i2.box 0
        have HI2 := Lib.hid i2
        have HN2 := Lib.hid (take_any r2 58)
        clear hr1 i2 r2 hG2 HI1 HN1 HF1
        go_wp2_with fail
        go_at_call 61
        refine HN2.out.mono ?_
        rintro e' W3 ⟨hG3, ⟨t2, hr2, rfl, r3⟩ | ⟨a', e2, hr2, rfl⟩⟩
        · have hk58 : t1.k = 58 ∧ tokN s t1.q = .ok t2 := by
            unfold takeN at hr2
            split at hr2
            · exact ⟨‹_›, hr2⟩
            · cases hr2
          have hw2 := tokN_tw hw1.2.2.2.1 hk58.2
          have HOP : Hid (objPart s (valN s d) tk = match valN s d t2 with | .ok x => .ok ([tk.t], x.1, x.2) | .error e => .error e) := by
            unfold Hid objPart
            rw [if_pos HK5.out, HR1.out]
            simp only
            rw [if_pos hk58.1, hk58.2]
            rfl
          have i0 := (HI2.out.keep hbn hG3).keep hbn (grew_drew (World.grownBy.refl W3 (some b)))
          have r0 := r3.drew
          have HFR : Hid (Fr n b W W3.drew) := (HF2.out.trans (Fr.of hG3 (by omega))).trans ⟨rfl, rfl, rfl, Nat.le_refl _, fun _ _ _ => rfl⟩
          have hnd : n + 4 ≤ W3.drew.heap.size := Nat.le_trans hn2 hG3.size
          have hkl : ∀ k, Value.ownBlock (.slice (some ⟨h1, 0, none⟩) (ks.length + 1) c1) = some k → k < W3.drew.heap.size := fun k e => (i0.keys.lt k e).2
          have hll : ∀ k, Value.ownBlock (.slice Al xs.length cl0) = some k → k < W3.drew.heap.size := fun k e => (i0.list.lt k e).2
          have hT1 := hw2.2
          obtain ⟨kv, hkv⟩ : ∃ kv, kv = Value.slice (some ⟨h1, 0, none⟩) (ks.length + 1) c1 := ⟨_, rfl⟩
          rw [← hkv] at i0 hkl
          clear hkv hr2 hk58 hw2 hG3 r3 HI2 HN2 HF2 cb
          go_wp2_with fail
          refine wp_region_held_drew (S := (fun w0 => w0.cell? ⟨n, 0, none⟩ = some (.pointer (some ⟨b, 0, none⟩)) ∧ w0.cell? ⟨n + 1, 0, none⟩ = some (.int .i64 ar))) (by kernel_rfl) ?_ (fun hHeld => ?_)
          · (try dsimp only)
            exact ⟨blk_cell i0.box 0, blk_cell i0.boxa 0⟩
          generalize (World.drew _) = W0 at i0 r0 HFR hnd hkl hll hHeld ⊢
          obtain ⟨Wd, hWd⟩ : ∃ Wd, Wd = W0 := ⟨_, rfl⟩
          have g0 : Wd.grownBy W0 (some b) := hWd ▸ World.grownBy.refl W0 (some b)
          rw [← hWd] at HFR hnd hkl hll
          clear hWd
          refine takeSome (i := 0) (v := ?_) (by decide +kernel) rfl (by rfl) (by decide +kernel) (by decide +kernel) (fun _ _ _ h => h) (by assumption) ?_ ?_
          rotate_left
          focus (intro w0 hSw; (try dsimp only at hSw); go_simp; (try (with_reducible rfl)); done)
          (try simp only [Act.put, List.getElem_toArray, List.getElem_cons_zero, List.setIfInBounds_toArray, List.set_cons_zero, List.set_cons_succ])
          refine takeSome (i := 2) (v := ?_) (by decide +kernel) rfl (by rfl) (by decide +kernel) (by decide +kernel) (fun _ _ _ h => h) (by assumption) ?_ ?_
          rotate_left
          focus (intro w0 hSw; (try dsimp only at hSw); go_simp; (try (with_reducible rfl)); done)
          (try simp only [Act.put, List.getElem_toArray, List.getElem_cons_zero, List.getElem_cons_succ, List.setIfInBounds_toArray, List.set_cons_zero, List.set_cons_succ])
          refine takeSome (i := 3) (v := ?_) (by decide +kernel) rfl (by rfl) (by decide +kernel) (by decide +kernel) (fun _ _ _ h => h) (by assumption) ?_ ?_
          rotate_left
          focus (intro w0 hSw; (try dsimp only at hSw); go_simp; (try (with_reducible rfl)); done)
          (try simp only [Act.put, List.getElem_toArray, List.getElem_cons_zero, List.getElem_cons_succ, List.setIfInBounds_toArray, List.set_cons_zero, List.set_cons_succ])
          refine takeSome (i := 4) (v := ?_) (by decide +kernel) rfl (by rfl) (by decide +kernel) (by decide +kernel) (fun _ _ _ h => h) (by assumption) ?_ ?_
          rotate_left
          focus (intro w0 hSw; (try dsimp only at hSw); go_simp; (try (with_reducible rfl)); done)
          (try simp only [Act.put, List.getElem_toArray, List.getElem_cons_zero, List.getElem_cons_succ, List.setIfInBounds_toArray, List.set_cons_zero, List.set_cons_succ])
          refine wpAnyH_ready (rs := [1, 5, 7]) (by decide +kernel) (by simp) ?_
          refine AllReadyH.cons rfl (fun K hK => ?_) (AllReadyH.cons rfl (fun K hK => ?_) (AllReadyH.cons rfl (fun K hK => ?_) AllReadyH.nil))
          · have cl : W0.cell? ⟨n + 3, 3, none⟩ = some (.slice Al xs.length cl0) := blk_cell i0.val 3
            (try simp only [List.getElem_toArray, List.getElem_cons_zero, List.getElem_cons_succ])
            go_simp
            refine hK.out _ _ ?_ (fun hHeld => ?_)
            focus ((try dsimp only); exact ⟨blk_cell i0.box 0, blk_cell i0.boxa 0⟩; done)
            clear hK K
            (try simp only [Act.put, List.getElem_toArray, List.getElem_cons_zero, List.getElem_cons_succ, List.setIfInBounds_toArray, List.set_cons_zero, List.set_cons_succ])
            clear cl
            refine takeSome (i := 6) (v := ?_) (by decide +kernel) rfl (by rfl) (by decide +kernel) (by decide +kernel) (fun _ _ _ h => h) (by assumption) ?_ ?_
            rotate_left
            focus (intro w0 hSw; (try dsimp only at hSw); go_simp; (try (with_reducible rfl)); done)
            (try simp only [Act.put, List.getElem_toArray, List.getElem_cons_zero, List.getElem_cons_succ, List.setIfInBounds_toArray, List.set_cons_zero, List.set_cons_succ])
            refine wpAnyH_ready (rs := [5, 7]) (by decide +kernel) (by simp) ?_
            refine AllReadyH.cons rfl (fun K hK => ?_) (AllReadyH.cons rfl (fun K hK => ?_) AllReadyH.nil)
            · (try simp only [List.getElem_toArray, List.getElem_cons_zero, List.getElem_cons_succ])
              go_simp
              go_at_call 23
              refine (HV.out _ _ r0 hT1).mono ?_
              rintro e' W1 ⟨hG, ⟨⟨pk, pt, pkv, plv⟩, x, tk2, F0, hr, rfl, hR2, hV, hF⟩ | ⟨a', e2, hr, rfl⟩⟩
              case inr =>
                refine ⟨rfl, ⟨HFR.out.trans (Fr.of (g0.trans hG) (by omega)), .inr ⟨a', e2, ?_, rfl⟩⟩⟩
                exact (by rw [HOP.out, hr])
              obtain ⟨A1, n1, c1, A2, n2, c2, rfl, rfl⟩ := hV.slices
              have i1 := i0.keep hbn hG
              have g1 := g0.trans hG
              have hF := fun k hk => (⟨Nat.le_trans g0.size (hF k hk).1, (hF k hk).2⟩ : Wd.heap.size ≤ k ∧ k < W1.heap.size)
              simp only [PV.val]
              refine hK.out _ _ ?_ (fun hHeld => ?_)
              focus ((try dsimp only); exact ⟨blk_cell i1.box 0, blk_cell i1.boxa 0⟩; done)
              clear hK K
              (try simp only [Act.put, List.getElem_toArray, List.getElem_cons_zero, List.getElem_cons_succ, List.setIfInBounds_toArray, List.set_cons_zero, List.set_cons_succ])
              clear hG r0
              have r1 := hR2
              clear hR2
              refine wpAnyH_ready (rs := [7]) (by decide +kernel) (by simp) ?_
              refine AllReadyH.cons rfl (fun K hK => ?_) AllReadyH.nil
              have hba := grew_alloc (World.grownBy.refl W1 (some b)) (Obj.cells #[.int .i64 0, .string ⟨#[]⟩, .slice none 0 0, .slice none 0 0] 25 (0, 0))
              have hbb := (Below.refl W1.heap.size W1).alloc (Nat.le_refl _) (Obj.cells #[.int .i64 0, .string ⟨#[]⟩, .slice none 0 0, .slice none 0 0] 25 (0, 0))
              have i2 := i1.keep hbn hba
              have g2 := g1.trans hba
              have r2 := r1.on hbb
              have hz := heap_alloc_new W1 (Obj.cells #[.int .i64 0, .string ⟨#[]⟩, .slice none 0 0, .slice none 0 0] 25 (0, 0))
              have hzb : b < W1.heap.size := r1.lt
              have hV := hV.keep (F' := F0) (fun g hg => ⟨hg, hbb.block g (hF g hg).2⟩)
              have hF := fun k hk => (⟨(hF k hk).1, Nat.lt_of_lt_of_le (hF k hk).2 hbb.size⟩ : Wd.heap.size ≤ k ∧ k < (W1.alloc (Obj.cells #[.int .i64 0, .string ⟨#[]⟩, .slice none 0 0, .slice none 0 0] 25 (0, 0))).heap.size)
              (try simp only [List.getElem_toArray, List.getElem_cons_zero, List.getElem_cons_succ])
              go_simp
              refine hK.out _ _ ?_ (fun hHeld => ?_)
              focus ((try dsimp only); exact ⟨blk_cell i2.box 0, blk_cell i2.boxa 0⟩; done)
              clear hK K
              (try simp only [Act.put, List.getElem_toArray, List.getElem_cons_zero, List.getElem_cons_succ, List.setIfInBounds_toArray, List.set_cons_zero, List.set_cons_succ])
              clear hba hbb r1
              generalize (World.alloc _ _) = W2 at i2 g2 r2 hz hV hF hHeld ⊢
              generalize W1.heap.size = gz at hz hzb ⊢
              refine wpAnyH_ready (rs := [8]) (by decide +kernel) (by simp) ?_
              refine AllReadyH.cons rfl (fun K hK => ?_) AllReadyH.nil
              refine step_append_row 4 72 25 23 iV zV Tryd.underlying23 hiV hzV hsV hbV hcV (by decide) i2.list (by have := g2.size; omega) zeroPV.cells rfl (by decide) gz 1 ?_ (by unfold maxLen; omega) (by omega) rfl _ _ rfl rfl rfl ?_
              · intro j u hu
                rw [blk_cell hz]
                match j, hu with
                | 0, hu => exact hu
                | 1, hu => exact hu
                | 2, hu => exact hu
                | 3, hu => exact hu
              rintro h0 c0 W9 hrow hg hh0
              have ap : Apd b n ar 7 d kv (.slice Al xs.length cl0) l F (ks ++ [tk.t]) xs Wd W2 W9 F0 ⟨pk, pt, .slice A1 n1 c1, .slice A2 n2 c2⟩ x h0 c0 := ⟨i2, hnd, g2.size, hV, hF, hkl, hll, hrow, hg, hh0⟩
              have bx := ap.base
              obtain ⟨⟨z0, z1, z2, z3⟩, zf⟩ := ap.cells
              have hgb : W9.heap[n]? = _ := (hg.block n (blk_lt i2.box) (fun e => by have := i2.list.lt _ e.symm; omega)).trans i2.box
              have hgc : W9.heap[n + 1]? = _ := (hg.block (n + 1) (blk_lt i2.boxa) (fun e => by have := i2.list.lt _ e.symm; omega)).trans i2.boxa
              have hgv : W9.heap[n + 3]? = _ := (hg.block (n + 3) (blk_lt i2.val) (fun e => by have := i2.list.lt _ e.symm; omega)).trans i2.val
              have v3 : W9.cell? ⟨n + 3, 3, none⟩ = some (.slice Al xs.length cl0) := blk_cell hgv 3
              have vf := blk_frozen hgv 3
              refine hK.out _ _ ?_ (fun hHeld => ?_)
              focus ((try dsimp only); exact ⟨blk_cell hgb 0, blk_cell hgc 0⟩; done)
              clear hK K
              (try simp only [Act.put, List.getElem_toArray, List.getElem_cons_zero, List.getElem_cons_succ, List.setIfInBounds_toArray, List.set_cons_zero, List.set_cons_succ])
              have zf0 := zf (xs.length * 4)
              have zf1 := zf (xs.length * 4 + 1)
              have zf2 := zf (xs.length * 4 + 2)
              have zf3 := zf (xs.length * 4 + 3)
              clear zf
              refine takeSome (i := 9) (v := ?_) (by decide +kernel) rfl (by rfl) (by decide +kernel) (by decide +kernel) (fun _ _ _ h => h) (by assumption) ?_ ?_
              rotate_left
              focus (intro w0 hSw; (try dsimp only at hSw); go_simp; (try (with_reducible rfl)); done)
              (try simp only [Act.put, List.getElem_toArray, List.getElem_cons_zero, List.getElem_cons_succ, List.setIfInBounds_toArray, List.set_cons_zero, List.set_cons_succ])
              refine takeSome (i := 11) (v := ?_) (by decide +kernel) rfl (by rfl) (by decide +kernel) (by decide +kernel) (fun _ _ _ h => h) (by assumption) ?_ ?_
              rotate_left
              focus (intro w0 hSw; (try dsimp only at hSw); go_simp; (try (with_reducible rfl)); done)
              (try simp only [Act.put, List.getElem_toArray, List.getElem_cons_zero, List.getElem_cons_succ, List.setIfInBounds_toArray, List.set_cons_zero, List.set_cons_succ])
              refine wpAnyH_ready (rs := [10, 12]) (by decide +kernel) (by simp) ?_
              refine AllReadyH.cons rfl (fun K hK => ?_) (AllReadyH.cons rfl (fun K hK => ?_) AllReadyH.nil)
              · have e5 : n + 3 ≠ h0 := by omega
                have e6 : n ≠ h0 := by omega
                have e7 : n + 1 ≠ h0 := by omega
                have y3 : (put4 W9 h0 (xs.length * 4) ⟨pk, pt, .slice A1 n1 c1, .slice A2 n2 c2⟩).cell? ⟨n + 3, 3, none⟩ = some (.slice Al xs.length cl0) := (cell_keep (put4_far W9 _ e5) 3).trans v3
                have yf : (put4 W9 h0 (xs.length * 4) ⟨pk, pt, .slice A1 n1 c1, .slice A2 n2 c2⟩).frozen? ⟨n + 3, 3, none⟩ = false := blk_frozen ((put4_far W9 _ e5).trans hgv) 3
                have yb := (put4_far W9 (i := xs.length * 4) ⟨pk, pt, .slice A1 n1 c1, .slice A2 n2 c2⟩ e6).trans hgb
                have yc := (put4_far W9 (i := xs.length * 4) ⟨pk, pt, .slice A1 n1 c1, .slice A2 n2 c2⟩ e7).trans hgc
                (try simp only [List.getElem_toArray, List.getElem_cons_zero, List.getElem_cons_succ])
                go_simp
                refine hK.out _ _ ?_ (fun hHeld => ?_)
                focus ((try dsimp only); exact ⟨blk_cell yb 0, blk_cell yc 0⟩; done)
                clear hK K
                (try simp only [Act.put, List.getElem_toArray, List.getElem_cons_zero, List.getElem_cons_succ, List.setIfInBounds_toArray, List.set_cons_zero, List.set_cons_succ])
                refine wpAnyH_ready (rs := [12]) (by decide +kernel) (by simp) ?_
                refine AllReadyH.cons rfl (fun K hK => ?_) AllReadyH.nil
                have ab := ap.first
                simp only [put4] at ab y3 yf
                (try simp only [List.getElem_toArray, List.getElem_cons_zero, List.getElem_cons_succ])
                go_simp
                refine hK.out _ _ ?_ (fun hHeld => ?_)
                focus ((try dsimp only); exact ⟨blk_cell ((Below.heap_setCell _ _ _ n (by show n ≠ n + 3; omega)).trans yb) 0, blk_cell ((Below.heap_setCell _ _ _ (n + 1) (by show n + 1 ≠ n + 3; omega)).trans yc) 0⟩; done)
                clear hK K
                (try simp only [Act.put, List.getElem_toArray, List.getElem_cons_zero, List.getElem_cons_succ, List.setIfInBounds_toArray, List.set_cons_zero, List.set_cons_succ])
                refine wpAnyH_done (by decide +kernel) ?_ _
                go_wp2_with fail
                refine bodyPost_end (results_none rfl _ _ _) rfl ?_
                refine ⟨HFR.out.trans ((Fr.of g2 (by omega)).trans (Fr.below ab.2)), .inl ⟨([tk.t], x, tk2), ?_, rfl, r2.under ab.2 hbn HA.out, ?_⟩⟩
                · rw [HOP.out, hr]
                · exact ab.1
              · have e5 : n + 3 ≠ h0 := by omega
                have e6 : n ≠ h0 := by omega
                have e7 : n + 1 ≠ h0 := by omega
                have yb := (Below.heap_setCell W9 ⟨n + 3, 3, none⟩ (.slice (some ⟨h0, 0, none⟩) (xs.length + 1) c0) n (by show n ≠ n + 3; omega)).trans hgb
                have yc := (Below.heap_setCell W9 ⟨n + 3, 3, none⟩ (.slice (some ⟨h0, 0, none⟩) (xs.length + 1) c0) (n + 1) (by show n + 1 ≠ n + 3; omega)).trans hgc
                (try simp only [List.getElem_toArray, List.getElem_cons_zero, List.getElem_cons_succ])
                go_simp
                refine hK.out _ _ ?_ (fun hHeld => ?_)
                focus ((try dsimp only); exact ⟨blk_cell yb 0, blk_cell yc 0⟩; done)
                clear hK K
                (try simp only [Act.put, List.getElem_toArray, List.getElem_cons_zero, List.getElem_cons_succ, List.setIfInBounds_toArray, List.set_cons_zero, List.set_cons_succ])
                refine wpAnyH_ready (rs := [10]) (by decide +kernel) (by simp) ?_
                refine AllReadyH.cons rfl (fun K hK => ?_) AllReadyH.nil
                have ab := ap.second
                have q0 := (cell_keep (Below.heap_setCell W9 ⟨n + 3, 3, none⟩ (.slice (some ⟨h0, 0, none⟩) (xs.length + 1) c0) h0 (by show h0 ≠ n + 3; omega)) (xs.length * 4)).trans z0
                have q1 := (cell_keep (Below.heap_setCell W9 ⟨n + 3, 3, none⟩ (.slice (some ⟨h0, 0, none⟩) (xs.length + 1) c0) h0 (by show h0 ≠ n + 3; omega)) (xs.length * 4 + 1)).trans z1
                have q2 := (cell_keep (Below.heap_setCell W9 ⟨n + 3, 3, none⟩ (.slice (some ⟨h0, 0, none⟩) (xs.length + 1) c0) h0 (by show h0 ≠ n + 3; omega)) (xs.length * 4 + 2)).trans z2
                have q3 := (cell_keep (Below.heap_setCell W9 ⟨n + 3, 3, none⟩ (.slice (some ⟨h0, 0, none⟩) (xs.length + 1) c0) h0 (by show h0 ≠ n + 3; omega)) (xs.length * 4 + 3)).trans z3
                have qf : ∀ i, (W9.setCell ⟨n + 3, 3, none⟩ (.slice (some ⟨h0, 0, none⟩) (xs.length + 1) c0)).frozen? ⟨h0, i, none⟩ = false := fun i => (World.frozen?_of_block (a := ⟨h0, i, none⟩) (Below.heap_setCell W9 ⟨n + 3, 3, none⟩ (.slice (some ⟨h0, 0, none⟩) (xs.length + 1) c0) h0 (by show h0 ≠ n + 3; omega))).trans (ap.cells.2 i)
                have qf0 := qf (xs.length * 4)
                have qf1 := qf (xs.length * 4 + 1)
                have qf2 := qf (xs.length * 4 + 2)
                have qf3 := qf (xs.length * 4 + 3)
                clear qf
                (try simp only [List.getElem_toArray, List.getElem_cons_zero, List.getElem_cons_succ])
                go_simp
                refine hK.out _ _ ?_ (fun hHeld => ?_)
                focus ((try dsimp only); exact ⟨blk_cell ((put4_far _ (i := xs.length * 4) ⟨pk, pt, .slice A1 n1 c1, .slice A2 n2 c2⟩ e6).trans yb) 0, blk_cell ((put4_far _ (i := xs.length * 4) ⟨pk, pt, .slice A1 n1 c1, .slice A2 n2 c2⟩ e7).trans yc) 0⟩; done)
                clear hK K
                (try simp only [Act.put, List.getElem_toArray, List.getElem_cons_zero, List.getElem_cons_succ, List.setIfInBounds_toArray, List.set_cons_zero, List.set_cons_succ])
                refine wpAnyH_done (by decide +kernel) ?_ _
                simp only [put4] at ab
                go_wp2_with fail
                refine bodyPost_end (results_none rfl _ _ _) rfl ?_
                refine ⟨HFR.out.trans ((Fr.of g2 (by omega)).trans (Fr.below ab.2)), .inl ⟨([tk.t], x, tk2), ?_, rfl, r2.under ab.2 hbn HA.out, ?_⟩⟩
                · rw [HOP.out, hr]
                · exact ab.1
            · have hba := grew_alloc (World.grownBy.refl W0 (some b)) (Obj.cells #[.int .i64 0, .string ⟨#[]⟩, .slice none 0 0, .slice none 0 0] 25 (0, 0))
              have hbb := (Below.refl W0.heap.size W0).alloc (Nat.le_refl _) (Obj.cells #[.int .i64 0, .string ⟨#[]⟩, .slice none 0 0, .slice none 0 0] 25 (0, 0))
              have i1 := i0.keep hbn hba
              have g1 := g0.trans hba
              have r1 := r0.on hbb
              have hz := heap_alloc_new W0 (Obj.cells #[.int .i64 0, .string ⟨#[]⟩, .slice none 0 0, .slice none 0 0] 25 (0, 0))
              have hzb : b < W0.heap.size := r0.lt
              (try simp only [List.getElem_toArray, List.getElem_cons_zero, List.getElem_cons_succ])
              go_simp
              refine hK.out _ _ ?_ (fun hHeld => ?_)
              focus ((try dsimp only); exact ⟨blk_cell i1.box 0, blk_cell i1.boxa 0⟩; done)
              clear hK K
              (try simp only [Act.put, List.getElem_toArray, List.getElem_cons_zero, List.getElem_cons_succ, List.setIfInBounds_toArray, List.set_cons_zero, List.set_cons_succ])
              clear hba hbb r0
              generalize (World.alloc _ _) = W1 at i1 g1 r1 hz hHeld ⊢
              generalize W0.heap.size = gz at hz hzb ⊢
              refine wpAnyH_ready (rs := [5]) (by decide +kernel) (by simp) ?_
              refine AllReadyH.cons rfl (fun K hK => ?_) AllReadyH.nil
              (try simp only [List.getElem_toArray, List.getElem_cons_zero, List.getElem_cons_succ])
              go_simp
              go_at_call 23
              refine (HV.out _ _ r1 hT1).mono ?_
              rintro e' W2 ⟨hG, ⟨⟨pk, pt, pkv, plv⟩, x, tk2, F0, hr, rfl, hR2, hV, hF⟩ | ⟨a', e2, hr, rfl⟩⟩
              case inr =>
                refine ⟨rfl, ⟨HFR.out.trans (Fr.of (g1.trans hG) (by omega)), .inr ⟨a', e2, ?_, rfl⟩⟩⟩
                exact (by rw [HOP.out, hr])
              obtain ⟨A1, n1, c1, A2, n2, c2, rfl, rfl⟩ := hV.slices
              have i2 := i1.keep hbn hG
              have g2 := g1.trans hG
              have hF := fun k hk => (⟨Nat.le_trans g1.size (hF k hk).1, (hF k hk).2⟩ : Wd.heap.size ≤ k ∧ k < W2.heap.size)
              simp only [PV.val]
              have hz := (hG.block gz (blk_lt hz) (by simp; omega)).trans hz
              refine hK.out _ _ ?_ (fun hHeld => ?_)
              focus ((try dsimp only); exact ⟨blk_cell i2.box 0, blk_cell i2.boxa 0⟩; done)
              clear hK K
              (try simp only [Act.put, List.getElem_toArray, List.getElem_cons_zero, List.getElem_cons_succ, List.setIfInBounds_toArray, List.set_cons_zero, List.set_cons_succ])
              clear hG r1
              have r2 := hR2
              clear hR2
              refine wpAnyH_ready (rs := [8]) (by decide +kernel) (by simp) ?_
              refine AllReadyH.cons rfl (fun K hK => ?_) AllReadyH.nil
              refine step_append_row 4 72 25 23 iV zV Tryd.underlying23 hiV hzV hsV hbV hcV (by decide) i2.list (by have := g2.size; omega) zeroPV.cells rfl (by decide) gz 1 ?_ (by unfold maxLen; omega) (by omega) rfl _ _ rfl rfl rfl ?_
              · intro j u hu
                rw [blk_cell hz]
                match j, hu with
                | 0, hu => exact hu
                | 1, hu => exact hu
                | 2, hu => exact hu
                | 3, hu => exact hu
              rintro h0 c0 W9 hrow hg hh0
              have ap : Apd b n ar 7 d kv (.slice Al xs.length cl0) l F (ks ++ [tk.t]) xs Wd W2 W9 F0 ⟨pk, pt, .slice A1 n1 c1, .slice A2 n2 c2⟩ x h0 c0 := ⟨i2, hnd, g2.size, hV, hF, hkl, hll, hrow, hg, hh0⟩
              have bx := ap.base
              obtain ⟨⟨z0, z1, z2, z3⟩, zf⟩ := ap.cells
              have hgb : W9.heap[n]? = _ := (hg.block n (blk_lt i2.box) (fun e => by have := i2.list.lt _ e.symm; omega)).trans i2.box
              have hgc : W9.heap[n + 1]? = _ := (hg.block (n + 1) (blk_lt i2.boxa) (fun e => by have := i2.list.lt _ e.symm; omega)).trans i2.boxa
              have hgv : W9.heap[n + 3]? = _ := (hg.block (n + 3) (blk_lt i2.val) (fun e => by have := i2.list.lt _ e.symm; omega)).trans i2.val
              have v3 : W9.cell? ⟨n + 3, 3, none⟩ = some (.slice Al xs.length cl0) := blk_cell hgv 3
              have vf := blk_frozen hgv 3
              refine hK.out _ _ ?_ (fun hHeld => ?_)
              focus ((try dsimp only); exact ⟨blk_cell hgb 0, blk_cell hgc 0⟩; done)
              clear hK K
              (try simp only [Act.put, List.getElem_toArray, List.getElem_cons_zero, List.getElem_cons_succ, List.setIfInBounds_toArray, List.set_cons_zero, List.set_cons_succ])
              have zf0 := zf (xs.length * 4)
              have zf1 := zf (xs.length * 4 + 1)
              have zf2 := zf (xs.length * 4 + 2)
              have zf3 := zf (xs.length * 4 + 3)
              clear zf
              refine takeSome (i := 9) (v := ?_) (by decide +kernel) rfl (by rfl) (by decide +kernel) (by decide +kernel) (fun _ _ _ h => h) (by assumption) ?_ ?_
              rotate_left
              focus (intro w0 hSw; (try dsimp only at hSw); go_simp; (try (with_reducible rfl)); done)
              (try simp only [Act.put, List.getElem_toArray, List.getElem_cons_zero, List.getElem_cons_succ, List.setIfInBounds_toArray, List.set_cons_zero, List.set_cons_succ])
              refine takeSome (i := 11) (v := ?_) (by decide +kernel) rfl (by rfl) (by decide +kernel) (by decide +kernel) (fun _ _ _ h => h) (by assumption) ?_ ?_
              rotate_left
              focus (intro w0 hSw; (try dsimp only at hSw); go_simp; (try (with_reducible rfl)); done)
              (try simp only [Act.put, List.getElem_toArray, List.getElem_cons_zero, List.getElem_cons_succ, List.setIfInBounds_toArray, List.set_cons_zero, List.set_cons_succ])
              refine wpAnyH_ready (rs := [10, 12]) (by decide +kernel) (by simp) ?_
              refine AllReadyH.cons rfl (fun K hK => ?_) (AllReadyH.cons rfl (fun K hK => ?_) AllReadyH.nil)
              · have e5 : n + 3 ≠ h0 := by omega
                have e6 : n ≠ h0 := by omega
                have e7 : n + 1 ≠ h0 := by omega
                have y3 : (put4 W9 h0 (xs.length * 4) ⟨pk, pt, .slice A1 n1 c1, .slice A2 n2 c2⟩).cell? ⟨n + 3, 3, none⟩ = some (.slice Al xs.length cl0) := (cell_keep (put4_far W9 _ e5) 3).trans v3
                have yf : (put4 W9 h0 (xs.length * 4) ⟨pk, pt, .slice A1 n1 c1, .slice A2 n2 c2⟩).frozen? ⟨n + 3, 3, none⟩ = false := blk_frozen ((put4_far W9 _ e5).trans hgv) 3
                have yb := (put4_far W9 (i := xs.length * 4) ⟨pk, pt, .slice A1 n1 c1, .slice A2 n2 c2⟩ e6).trans hgb
                have yc := (put4_far W9 (i := xs.length * 4) ⟨pk, pt, .slice A1 n1 c1, .slice A2 n2 c2⟩ e7).trans hgc
                (try simp only [List.getElem_toArray, List.getElem_cons_zero, List.getElem_cons_succ])
                go_simp
                refine hK.out _ _ ?_ (fun hHeld => ?_)
                focus ((try dsimp only); exact ⟨blk_cell yb 0, blk_cell yc 0⟩; done)
                clear hK K
                (try simp only [Act.put, List.getElem_toArray, List.getElem_cons_zero, List.getElem_cons_succ, List.setIfInBounds_toArray, List.set_cons_zero, List.set_cons_succ])
                refine wpAnyH_ready (rs := [12]) (by decide +kernel) (by simp) ?_
                refine AllReadyH.cons rfl (fun K hK => ?_) AllReadyH.nil
                have ab := ap.first
                simp only [put4] at ab y3 yf
                (try simp only [List.getElem_toArray, List.getElem_cons_zero, List.getElem_cons_succ])
                go_simp
                refine hK.out _ _ ?_ (fun hHeld => ?_)
                focus ((try dsimp only); exact ⟨blk_cell ((Below.heap_setCell _ _ _ n (by show n ≠ n + 3; omega)).trans yb) 0, blk_cell ((Below.heap_setCell _ _ _ (n + 1) (by show n + 1 ≠ n + 3; omega)).trans yc) 0⟩; done)
                clear hK K
                (try simp only [Act.put, List.getElem_toArray, List.getElem_cons_zero, List.getElem_cons_succ, List.setIfInBounds_toArray, List.set_cons_zero, List.set_cons_succ])
                refine wpAnyH_done (by decide +kernel) ?_ _
                go_wp2_with fail
                refine bodyPost_end (results_none rfl _ _ _) rfl ?_
                refine ⟨HFR.out.trans ((Fr.of g2 (by omega)).trans (Fr.below ab.2)), .inl ⟨([tk.t], x, tk2), ?_, rfl, r2.under ab.2 hbn HA.out, ?_⟩⟩
                · rw [HOP.out, hr]
                · exact ab.1
              · have e5 : n + 3 ≠ h0 := by omega
                have e6 : n ≠ h0 := by omega
                have e7 : n + 1 ≠ h0 := by omega
                have yb := (Below.heap_setCell W9 ⟨n + 3, 3, none⟩ (.slice (some ⟨h0, 0, none⟩) (xs.length + 1) c0) n (by show n ≠ n + 3; omega)).trans hgb
                have yc := (Below.heap_setCell W9 ⟨n + 3, 3, none⟩ (.slice (some ⟨h0, 0, none⟩) (xs.length + 1) c0) (n + 1) (by show n + 1 ≠ n + 3; omega)).trans hgc
                (try simp only [List.getElem_toArray, List.getElem_cons_zero, List.getElem_cons_succ])
                go_simp
                refine hK.out _ _ ?_ (fun hHeld => ?_)
                focus ((try dsimp only); exact ⟨blk_cell yb 0, blk_cell yc 0⟩; done)
                clear hK K
                (try simp only [Act.put, List.getElem_toArray, List.getElem_cons_zero, List.getElem_cons_succ, List.setIfInBounds_toArray, List.set_cons_zero, List.set_cons_succ])
                refine wpAnyH_ready (rs := [10]) (by decide +kernel) (by simp) ?_
                refine AllReadyH.cons rfl (fun K hK => ?_) AllReadyH.nil
                have ab := ap.second
                have q0 := (cell_keep (Below.heap_setCell W9 ⟨n + 3, 3, none⟩ (.slice (some ⟨h0, 0, none⟩) (xs.length + 1) c0) h0 (by show h0 ≠ n + 3; omega)) (xs.length * 4)).trans z0
                have q1 := (cell_keep (Below.heap_setCell W9 ⟨n + 3, 3, none⟩ (.slice (some ⟨h0, 0, none⟩) (xs.length + 1) c0) h0 (by show h0 ≠ n + 3; omega)) (xs.length * 4 + 1)).trans z1
                have q2 := (cell_keep (Below.heap_setCell W9 ⟨n + 3, 3, none⟩ (.slice (some ⟨h0, 0, none⟩) (xs.length + 1) c0) h0 (by show h0 ≠ n + 3; omega)) (xs.length * 4 + 2)).trans z2
                have q3 := (cell_keep (Below.heap_setCell W9 ⟨n + 3, 3, none⟩ (.slice (some ⟨h0, 0, none⟩) (xs.length + 1) c0) h0 (by show h0 ≠ n + 3; omega)) (xs.length * 4 + 3)).trans z3
                have qf : ∀ i, (W9.setCell ⟨n + 3, 3, none⟩ (.slice (some ⟨h0, 0, none⟩) (xs.length + 1) c0)).frozen? ⟨h0, i, none⟩ = false := fun i => (World.frozen?_of_block (a := ⟨h0, i, none⟩) (Below.heap_setCell W9 ⟨n + 3, 3, none⟩ (.slice (some ⟨h0, 0, none⟩) (xs.length + 1) c0) h0 (by show h0 ≠ n + 3; omega))).trans (ap.cells.2 i)
                have qf0 := qf (xs.length * 4)
                have qf1 := qf (xs.length * 4 + 1)
                have qf2 := qf (xs.length * 4 + 2)
                have qf3 := qf (xs.length * 4 + 3)
                clear qf
                (try simp only [List.getElem_toArray, List.getElem_cons_zero, List.getElem_cons_succ])
                go_simp
                refine hK.out _ _ ?_ (fun hHeld => ?_)
                focus ((try dsimp only); exact ⟨blk_cell ((put4_far _ (i := xs.length * 4) ⟨pk, pt, .slice A1 n1 c1, .slice A2 n2 c2⟩ e6).trans yb) 0, blk_cell ((put4_far _ (i := xs.length * 4) ⟨pk, pt, .slice A1 n1 c1, .slice A2 n2 c2⟩ e7).trans yc) 0⟩; done)
                clear hK K
                (try simp only [Act.put, List.getElem_toArray, List.getElem_cons_zero, List.getElem_cons_succ, List.setIfInBounds_toArray, List.set_cons_zero, List.set_cons_succ])
                refine wpAnyH_done (by decide +kernel) ?_ _
                simp only [put4] at ab
                go_wp2_with fail
                refine bodyPost_end (results_none rfl _ _ _) rfl ?_
                refine ⟨HFR.out.trans ((Fr.of g2 (by omega)).trans (Fr.below ab.2)), .inl ⟨([tk.t], x, tk2), ?_, rfl, r2.under ab.2 hbn HA.out, ?_⟩⟩
                · rw [HOP.out, hr]
                · exact ab.1
          · (try simp only [List.getElem_toArray, List.getElem_cons_zero, List.getElem_cons_succ])
            go_simp
            go_at_call 23
            refine (HV.out _ _ r0 hT1).mono ?_
            rintro e' W1 ⟨hG, ⟨⟨pk, pt, pkv, plv⟩, x, tk2, F0, hr, rfl, hR2, hV, hF⟩ | ⟨a', e2, hr, rfl⟩⟩
            case inr =>
              refine ⟨rfl, ⟨HFR.out.trans (Fr.of (g0.trans hG) (by omega)), .inr ⟨a', e2, ?_, rfl⟩⟩⟩
              exact (by rw [HOP.out, hr])
            obtain ⟨A1, n1, c1, A2, n2, c2, rfl, rfl⟩ := hV.slices
            have i1 := i0.keep hbn hG
            have g1 := g0.trans hG
            have hF := fun k hk => (⟨Nat.le_trans g0.size (hF k hk).1, (hF k hk).2⟩ : Wd.heap.size ≤ k ∧ k < W1.heap.size)
            simp only [PV.val]
            refine hK.out _ _ ?_ (fun hHeld => ?_)
            focus ((try dsimp only); exact ⟨blk_cell i1.box 0, blk_cell i1.boxa 0⟩; done)
            clear hK K
            (try simp only [Act.put, List.getElem_toArray, List.getElem_cons_zero, List.getElem_cons_succ, List.setIfInBounds_toArray, List.set_cons_zero, List.set_cons_succ])
            clear hG r0
            have r1 := hR2
            clear hR2
            refine wpAnyH_ready (rs := [1, 7]) (by decide +kernel) (by simp) ?_
            refine AllReadyH.cons rfl (fun K hK => ?_) (AllReadyH.cons rfl (fun K hK => ?_) AllReadyH.nil)
            · have cl : W1.cell? ⟨n + 3, 3, none⟩ = some (.slice Al xs.length cl0) := blk_cell i1.val 3
              (try simp only [List.getElem_toArray, List.getElem_cons_zero, List.getElem_cons_succ])
              go_simp
              refine hK.out _ _ ?_ (fun hHeld => ?_)
              focus ((try dsimp only); exact ⟨blk_cell i1.box 0, blk_cell i1.boxa 0⟩; done)
              clear hK K
              (try simp only [Act.put, List.getElem_toArray, List.getElem_cons_zero, List.getElem_cons_succ, List.setIfInBounds_toArray, List.set_cons_zero, List.set_cons_succ])
              clear cl
              refine takeSome (i := 6) (v := ?_) (by decide +kernel) rfl (by rfl) (by decide +kernel) (by decide +kernel) (fun _ _ _ h => h) (by assumption) ?_ ?_
              rotate_left
              focus (intro w0 hSw; (try dsimp only at hSw); go_simp; (try (with_reducible rfl)); done)
              (try simp only [Act.put, List.getElem_toArray, List.getElem_cons_zero, List.getElem_cons_succ, List.setIfInBounds_toArray, List.set_cons_zero, List.set_cons_succ])
              refine wpAnyH_ready (rs := [7]) (by decide +kernel) (by simp) ?_
              refine AllReadyH.cons rfl (fun K hK => ?_) AllReadyH.nil
              have hba := grew_alloc (World.grownBy.refl W1 (some b)) (Obj.cells #[.int .i64 0, .string ⟨#[]⟩, .slice none 0 0, .slice none 0 0] 25 (0, 0))
              have hbb := (Below.refl W1.heap.size W1).alloc (Nat.le_refl _) (Obj.cells #[.int .i64 0, .string ⟨#[]⟩, .slice none 0 0, .slice none 0 0] 25 (0, 0))
              have i2 := i1.keep hbn hba
              have g2 := g1.trans hba
              have r2 := r1.on hbb
              have hz := heap_alloc_new W1 (Obj.cells #[.int .i64 0, .string ⟨#[]⟩, .slice none 0 0, .slice none 0 0] 25 (0, 0))
              have hzb : b < W1.heap.size := r1.lt
              have hV := hV.keep (F' := F0) (fun g hg => ⟨hg, hbb.block g (hF g hg).2⟩)
              have hF := fun k hk => (⟨(hF k hk).1, Nat.lt_of_lt_of_le (hF k hk).2 hbb.size⟩ : Wd.heap.size ≤ k ∧ k < (W1.alloc (Obj.cells #[.int .i64 0, .string ⟨#[]⟩, .slice none 0 0, .slice none 0 0] 25 (0, 0))).heap.size)
              (try simp only [List.getElem_toArray, List.getElem_cons_zero, List.getElem_cons_succ])
              go_simp
              refine hK.out _ _ ?_ (fun hHeld => ?_)
              focus ((try dsimp only); exact ⟨blk_cell i2.box 0, blk_cell i2.boxa 0⟩; done)
              clear hK K
              (try simp only [Act.put, List.getElem_toArray, List.getElem_cons_zero, List.getElem_cons_succ, List.setIfInBounds_toArray, List.set_cons_zero, List.set_cons_succ])
              clear hba hbb r1
              generalize (World.alloc _ _) = W2 at i2 g2 r2 hz hV hF hHeld ⊢
              generalize W1.heap.size = gz at hz hzb ⊢
              refine wpAnyH_ready (rs := [8]) (by decide +kernel) (by simp) ?_
              refine AllReadyH.cons rfl (fun K hK => ?_) AllReadyH.nil
              refine step_append_row 4 72 25 23 iV zV Tryd.underlying23 hiV hzV hsV hbV hcV (by decide) i2.list (by have := g2.size; omega) zeroPV.cells rfl (by decide) gz 1 ?_ (by unfold maxLen; omega) (by omega) rfl _ _ rfl rfl rfl ?_
              · intro j u hu
                rw [blk_cell hz]
                match j, hu with
                | 0, hu => exact hu
                | 1, hu => exact hu
                | 2, hu => exact hu
                | 3, hu => exact hu
              rintro h0 c0 W9 hrow hg hh0
              have ap : Apd b n ar 7 d kv (.slice Al xs.length cl0) l F (ks ++ [tk.t]) xs Wd W2 W9 F0 ⟨pk, pt, .slice A1 n1 c1, .slice A2 n2 c2⟩ x h0 c0 := ⟨i2, hnd, g2.size, hV, hF, hkl, hll, hrow, hg, hh0⟩
              have bx := ap.base
              obtain ⟨⟨z0, z1, z2, z3⟩, zf⟩ := ap.cells
              have hgb : W9.heap[n]? = _ := (hg.block n (blk_lt i2.box) (fun e => by have := i2.list.lt _ e.symm; omega)).trans i2.box
              have hgc : W9.heap[n + 1]? = _ := (hg.block (n + 1) (blk_lt i2.boxa) (fun e => by have := i2.list.lt _ e.symm; omega)).trans i2.boxa
              have hgv : W9.heap[n + 3]? = _ := (hg.block (n + 3) (blk_lt i2.val) (fun e => by have := i2.list.lt _ e.symm; omega)).trans i2.val
              have v3 : W9.cell? ⟨n + 3, 3, none⟩ = some (.slice Al xs.length cl0) := blk_cell hgv 3
              have vf := blk_frozen hgv 3
              refine hK.out _ _ ?_ (fun hHeld => ?_)
              focus ((try dsimp only); exact ⟨blk_cell hgb 0, blk_cell hgc 0⟩; done)
              clear hK K
              (try simp only [Act.put, List.getElem_toArray, List.getElem_cons_zero, List.getElem_cons_succ, List.setIfInBounds_toArray, List.set_cons_zero, List.set_cons_succ])
              have zf0 := zf (xs.length * 4)
              have zf1 := zf (xs.length * 4 + 1)
              have zf2 := zf (xs.length * 4 + 2)
              have zf3 := zf (xs.length * 4 + 3)
              clear zf
              refine takeSome (i := 9) (v := ?_) (by decide +kernel) rfl (by rfl) (by decide +kernel) (by decide +kernel) (fun _ _ _ h => h) (by assumption) ?_ ?_
              rotate_left
              focus (intro w0 hSw; (try dsimp only at hSw); go_simp; (try (with_reducible rfl)); done)
              (try simp only [Act.put, List.getElem_toArray, List.getElem_cons_zero, List.getElem_cons_succ, List.setIfInBounds_toArray, List.set_cons_zero, List.set_cons_succ])
              refine takeSome (i := 11) (v := ?_) (by decide +kernel) rfl (by rfl) (by decide +kernel) (by decide +kernel) (fun _ _ _ h => h) (by assumption) ?_ ?_
              rotate_left
              focus (intro w0 hSw; (try dsimp only at hSw); go_simp; (try (with_reducible rfl)); done)
              (try simp only [Act.put, List.getElem_toArray, List.getElem_cons_zero, List.getElem_cons_succ, List.setIfInBounds_toArray, List.set_cons_zero, List.set_cons_succ])
              refine wpAnyH_ready (rs := [10, 12]) (by decide +kernel) (by simp) ?_
              refine AllReadyH.cons rfl (fun K hK => ?_) (AllReadyH.cons rfl (fun K hK => ?_) AllReadyH.nil)
              · have e5 : n + 3 ≠ h0 := by omega
                have e6 : n ≠ h0 := by omega
                have e7 : n + 1 ≠ h0 := by omega
                have y3 : (put4 W9 h0 (xs.length * 4) ⟨pk, pt, .slice A1 n1 c1, .slice A2 n2 c2⟩).cell? ⟨n + 3, 3, none⟩ = some (.slice Al xs.length cl0) := (cell_keep (put4_far W9 _ e5) 3).trans v3
                have yf : (put4 W9 h0 (xs.length * 4) ⟨pk, pt, .slice A1 n1 c1, .slice A2 n2 c2⟩).frozen? ⟨n + 3, 3, none⟩ = false := blk_frozen ((put4_far W9 _ e5).trans hgv) 3
                have yb := (put4_far W9 (i := xs.length * 4) ⟨pk, pt, .slice A1 n1 c1, .slice A2 n2 c2⟩ e6).trans hgb
                have yc := (put4_far W9 (i := xs.length * 4) ⟨pk, pt, .slice A1 n1 c1, .slice A2 n2 c2⟩ e7).trans hgc
                (try simp only [List.getElem_toArray, List.getElem_cons_zero, List.getElem_cons_succ])
                go_simp
                refine hK.out _ _ ?_ (fun hHeld => ?_)
                focus ((try dsimp only); exact ⟨blk_cell yb 0, blk_cell yc 0⟩; done)
                clear hK K
                (try simp only [Act.put, List.getElem_toArray, List.getElem_cons_zero, List.getElem_cons_succ, List.setIfInBounds_toArray, List.set_cons_zero, List.set_cons_succ])
                refine wpAnyH_ready (rs := [12]) (by decide +kernel) (by simp) ?_
                refine AllReadyH.cons rfl (fun K hK => ?_) AllReadyH.nil
                have ab := ap.first
                simp only [put4] at ab y3 yf
                (try simp only [List.getElem_toArray, List.getElem_cons_zero, List.getElem_cons_succ])
                go_simp
                refine hK.out _ _ ?_ (fun hHeld => ?_)
                focus ((try dsimp only); exact ⟨blk_cell ((Below.heap_setCell _ _ _ n (by show n ≠ n + 3; omega)).trans yb) 0, blk_cell ((Below.heap_setCell _ _ _ (n + 1) (by show n + 1 ≠ n + 3; omega)).trans yc) 0⟩; done)
                clear hK K
                (try simp only [Act.put, List.getElem_toArray, List.getElem_cons_zero, List.getElem_cons_succ, List.setIfInBounds_toArray, List.set_cons_zero, List.set_cons_succ])
                refine wpAnyH_done (by decide +kernel) ?_ _
                go_wp2_with fail
                refine bodyPost_end (results_none rfl _ _ _) rfl ?_
                refine ⟨HFR.out.trans ((Fr.of g2 (by omega)).trans (Fr.below ab.2)), .inl ⟨([tk.t], x, tk2), ?_, rfl, r2.under ab.2 hbn HA.out, ?_⟩⟩
                · rw [HOP.out, hr]
                · exact ab.1
              · have e5 : n + 3 ≠ h0 := by omega
                have e6 : n ≠ h0 := by omega
                have e7 : n + 1 ≠ h0 := by omega
                have yb := (Below.heap_setCell W9 ⟨n + 3, 3, none⟩ (.slice (some ⟨h0, 0, none⟩) (xs.length + 1) c0) n (by show n ≠ n + 3; omega)).trans hgb
                have yc := (Below.heap_setCell W9 ⟨n + 3, 3, none⟩ (.slice (some ⟨h0, 0, none⟩) (xs.length + 1) c0) (n + 1) (by show n + 1 ≠ n + 3; omega)).trans hgc
                (try simp only [List.getElem_toArray, List.getElem_cons_zero, List.getElem_cons_succ])
                go_simp
                refine hK.out _ _ ?_ (fun hHeld => ?_)
                focus ((try dsimp only); exact ⟨blk_cell yb 0, blk_cell yc 0⟩; done)
                clear hK K
                (try simp only [Act.put, List.getElem_toArray, List.getElem_cons_zero, List.getElem_cons_succ, List.setIfInBounds_toArray, List.set_cons_zero, List.set_cons_succ])
                refine wpAnyH_ready (rs := [10]) (by decide +kernel) (by simp) ?_
                refine AllReadyH.cons rfl (fun K hK => ?_) AllReadyH.nil
                have ab := ap.second
                have q0 := (cell_keep (Below.heap_setCell W9 ⟨n + 3, 3, none⟩ (.slice (some ⟨h0, 0, none⟩) (xs.length + 1) c0) h0 (by show h0 ≠ n + 3; omega)) (xs.length * 4)).trans z0
                have q1 := (cell_keep (Below.heap_setCell W9 ⟨n + 3, 3, none⟩ (.slice (some ⟨h0, 0, none⟩) (xs.length + 1) c0) h0 (by show h0 ≠ n + 3; omega)) (xs.length * 4 + 1)).trans z1
                have q2 := (cell_keep (Below.heap_setCell W9 ⟨n + 3, 3, none⟩ (.slice (some ⟨h0, 0, none⟩) (xs.length + 1) c0) h0 (by show h0 ≠ n + 3; omega)) (xs.length * 4 + 2)).trans z2
                have q3 := (cell_keep (Below.heap_setCell W9 ⟨n + 3, 3, none⟩ (.slice (some ⟨h0, 0, none⟩) (xs.length + 1) c0) h0 (by show h0 ≠ n + 3; omega)) (xs.length * 4 + 3)).trans z3
                have qf : ∀ i, (W9.setCell ⟨n + 3, 3, none⟩ (.slice (some ⟨h0, 0, none⟩) (xs.length + 1) c0)).frozen? ⟨h0, i, none⟩ = false := fun i => (World.frozen?_of_block (a := ⟨h0, i, none⟩) (Below.heap_setCell W9 ⟨n + 3, 3, none⟩ (.slice (some ⟨h0, 0, none⟩) (xs.length + 1) c0) h0 (by show h0 ≠ n + 3; omega))).trans (ap.cells.2 i)
                have qf0 := qf (xs.length * 4)
                have qf1 := qf (xs.length * 4 + 1)
                have qf2 := qf (xs.length * 4 + 2)
                have qf3 := qf (xs.length * 4 + 3)
                clear qf
                (try simp only [List.getElem_toArray, List.getElem_cons_zero, List.getElem_cons_succ])
                go_simp
                refine hK.out _ _ ?_ (fun hHeld => ?_)
                focus ((try dsimp only); exact ⟨blk_cell ((put4_far _ (i := xs.length * 4) ⟨pk, pt, .slice A1 n1 c1, .slice A2 n2 c2⟩ e6).trans yb) 0, blk_cell ((put4_far _ (i := xs.length * 4) ⟨pk, pt, .slice A1 n1 c1, .slice A2 n2 c2⟩ e7).trans yc) 0⟩; done)
                clear hK K
                (try simp only [Act.put, List.getElem_toArray, List.getElem_cons_zero, List.getElem_cons_succ, List.setIfInBounds_toArray, List.set_cons_zero, List.set_cons_succ])
                refine wpAnyH_done (by decide +kernel) ?_ _
                simp only [put4] at ab
                go_wp2_with fail
                refine bodyPost_end (results_none rfl _ _ _) rfl ?_
                refine ⟨HFR.out.trans ((Fr.of g2 (by omega)).trans (Fr.below ab.2)), .inl ⟨([tk.t], x, tk2), ?_, rfl, r2.under ab.2 hbn HA.out, ?_⟩⟩
                · rw [HOP.out, hr]
                · exact ab.1
            · have hba := grew_alloc (World.grownBy.refl W1 (some b)) (Obj.cells #[.int .i64 0, .string ⟨#[]⟩, .slice none 0 0, .slice none 0 0] 25 (0, 0))
              have hbb := (Below.refl W1.heap.size W1).alloc (Nat.le_refl _) (Obj.cells #[.int .i64 0, .string ⟨#[]⟩, .slice none 0 0, .slice none 0 0] 25 (0, 0))
              have i2 := i1.keep hbn hba
              have g2 := g1.trans hba
              have r2 := r1.on hbb
              have hz := heap_alloc_new W1 (Obj.cells #[.int .i64 0, .string ⟨#[]⟩, .slice none 0 0, .slice none 0 0] 25 (0, 0))
              have hzb : b < W1.heap.size := r1.lt
              have hV := hV.keep (F' := F0) (fun g hg => ⟨hg, hbb.block g (hF g hg).2⟩)
              have hF := fun k hk => (⟨(hF k hk).1, Nat.lt_of_lt_of_le (hF k hk).2 hbb.size⟩ : Wd.heap.size ≤ k ∧ k < (W1.alloc (Obj.cells #[.int .i64 0, .string ⟨#[]⟩, .slice none 0 0, .slice none 0 0] 25 (0, 0))).heap.size)
              (try simp only [List.getElem_toArray, List.getElem_cons_zero, List.getElem_cons_succ])
              go_simp
              refine hK.out _ _ ?_ (fun hHeld => ?_)
              focus ((try dsimp only); exact ⟨blk_cell i2.box 0, blk_cell i2.boxa 0⟩; done)
              clear hK K
              (try simp only [Act.put, List.getElem_toArray, List.getElem_cons_zero, List.getElem_cons_succ, List.setIfInBounds_toArray, List.set_cons_zero, List.set_cons_succ])
              clear hba hbb r1
              generalize (World.alloc _ _) = W2 at i2 g2 r2 hz hV hF hHeld ⊢
              generalize W1.heap.size = gz at hz hzb ⊢
              refine wpAnyH_ready (rs := [1]) (by decide +kernel) (by simp) ?_
              refine AllReadyH.cons rfl (fun K hK => ?_) AllReadyH.nil
              have cl : W2.cell? ⟨n + 3, 3, none⟩ = some (.slice Al xs.length cl0) := blk_cell i2.val 3
              (try simp only [List.getElem_toArray, List.getElem_cons_zero, List.getElem_cons_succ])
              go_simp
              refine hK.out _ _ ?_ (fun hHeld => ?_)
              focus ((try dsimp only); exact ⟨blk_cell i2.box 0, blk_cell i2.boxa 0⟩; done)
              clear hK K
              (try simp only [Act.put, List.getElem_toArray, List.getElem_cons_zero, List.getElem_cons_succ, List.setIfInBounds_toArray, List.set_cons_zero, List.set_cons_succ])
              clear cl
              refine takeSome (i := 6) (v := ?_) (by decide +kernel) rfl (by rfl) (by decide +kernel) (by decide +kernel) (fun _ _ _ h => h) (by assumption) ?_ ?_
              rotate_left
              focus (intro w0 hSw; (try dsimp only at hSw); go_simp; (try (with_reducible rfl)); done)
              (try simp only [Act.put, List.getElem_toArray, List.getElem_cons_zero, List.getElem_cons_succ, List.setIfInBounds_toArray, List.set_cons_zero, List.set_cons_succ])
              refine wpAnyH_ready (rs := [8]) (by decide +kernel) (by simp) ?_
              refine AllReadyH.cons rfl (fun K hK => ?_) AllReadyH.nil
              refine step_append_row 4 72 25 23 iV zV Tryd.underlying23 hiV hzV hsV hbV hcV (by decide) i2.list (by have := g2.size; omega) zeroPV.cells rfl (by decide) gz 1 ?_ (by unfold maxLen; omega) (by omega) rfl _ _ rfl rfl rfl ?_
              · intro j u hu
                rw [blk_cell hz]
                match j, hu with
                | 0, hu => exact hu
                | 1, hu => exact hu
                | 2, hu => exact hu
                | 3, hu => exact hu
              rintro h0 c0 W9 hrow hg hh0
              have ap : Apd b n ar 7 d kv (.slice Al xs.length cl0) l F (ks ++ [tk.t]) xs Wd W2 W9 F0 ⟨pk, pt, .slice A1 n1 c1, .slice A2 n2 c2⟩ x h0 c0 := ⟨i2, hnd, g2.size, hV, hF, hkl, hll, hrow, hg, hh0⟩
              have bx := ap.base
              obtain ⟨⟨z0, z1, z2, z3⟩, zf⟩ := ap.cells
              have hgb : W9.heap[n]? = _ := (hg.block n (blk_lt i2.box) (fun e => by have := i2.list.lt _ e.symm; omega)).trans i2.box
              have hgc : W9.heap[n + 1]? = _ := (hg.block (n + 1) (blk_lt i2.boxa) (fun e => by have := i2.list.lt _ e.symm; omega)).trans i2.boxa
              have hgv : W9.heap[n + 3]? = _ := (hg.block (n + 3) (blk_lt i2.val) (fun e => by have := i2.list.lt _ e.symm; omega)).trans i2.val
              have v3 : W9.cell? ⟨n + 3, 3, none⟩ = some (.slice Al xs.length cl0) := blk_cell hgv 3
              have vf := blk_frozen hgv 3
              refine hK.out _ _ ?_ (fun hHeld => ?_)
              focus ((try dsimp only); exact ⟨blk_cell hgb 0, blk_cell hgc 0⟩; done)
              clear hK K
              (try simp only [Act.put, List.getElem_toArray, List.getElem_cons_zero, List.getElem_cons_succ, List.setIfInBounds_toArray, List.set_cons_zero, List.set_cons_succ])
              have zf0 := zf (xs.length * 4)
              have zf1 := zf (xs.length * 4 + 1)
              have zf2 := zf (xs.length * 4 + 2)
              have zf3 := zf (xs.length * 4 + 3)
              clear zf
              refine takeSome (i := 9) (v := ?_) (by decide +kernel) rfl (by rfl) (by decide +kernel) (by decide +kernel) (fun _ _ _ h => h) (by assumption) ?_ ?_
              rotate_left
              focus (intro w0 hSw; (try dsimp only at hSw); go_simp; (try (with_reducible rfl)); done)
              (try simp only [Act.put, List.getElem_toArray, List.getElem_cons_zero, List.getElem_cons_succ, List.setIfInBounds_toArray, List.set_cons_zero, List.set_cons_succ])
              refine takeSome (i := 11) (v := ?_) (by decide +kernel) rfl (by rfl) (by decide +kernel) (by decide +kernel) (fun _ _ _ h => h) (by assumption) ?_ ?_
              rotate_left
              focus (intro w0 hSw; (try dsimp only at hSw); go_simp; (try (with_reducible rfl)); done)
              (try simp only [Act.put, List.getElem_toArray, List.getElem_cons_zero, List.getElem_cons_succ, List.setIfInBounds_toArray, List.set_cons_zero, List.set_cons_succ])
              refine wpAnyH_ready (rs := [10, 12]) (by decide +kernel) (by simp) ?_
              refine AllReadyH.cons rfl (fun K hK => ?_) (AllReadyH.cons rfl (fun K hK => ?_) AllReadyH.nil)
              · have e5 : n + 3 ≠ h0 := by omega
                have e6 : n ≠ h0 := by omega
                have e7 : n + 1 ≠ h0 := by omega
                have y3 : (put4 W9 h0 (xs.length * 4) ⟨pk, pt, .slice A1 n1 c1, .slice A2 n2 c2⟩).cell? ⟨n + 3, 3, none⟩ = some (.slice Al xs.length cl0) := (cell_keep (put4_far W9 _ e5) 3).trans v3
                have yf : (put4 W9 h0 (xs.length * 4) ⟨pk, pt, .slice A1 n1 c1, .slice A2 n2 c2⟩).frozen? ⟨n + 3, 3, none⟩ = false := blk_frozen ((put4_far W9 _ e5).trans hgv) 3
                have yb := (put4_far W9 (i := xs.length * 4) ⟨pk, pt, .slice A1 n1 c1, .slice A2 n2 c2⟩ e6).trans hgb
                have yc := (put4_far W9 (i := xs.length * 4) ⟨pk, pt, .slice A1 n1 c1, .slice A2 n2 c2⟩ e7).trans hgc
                (try simp only [List.getElem_toArray, List.getElem_cons_zero, List.getElem_cons_succ])
                go_simp
                refine hK.out _ _ ?_ (fun hHeld => ?_)
                focus ((try dsimp only); exact ⟨blk_cell yb 0, blk_cell yc 0⟩; done)
                clear hK K
                (try simp only [Act.put, List.getElem_toArray, List.getElem_cons_zero, List.getElem_cons_succ, List.setIfInBounds_toArray, List.set_cons_zero, List.set_cons_succ])
                refine wpAnyH_ready (rs := [12]) (by decide +kernel) (by simp) ?_
                refine AllReadyH.cons rfl (fun K hK => ?_) AllReadyH.nil
                have ab := ap.first
                simp only [put4] at ab y3 yf
                (try simp only [List.getElem_toArray, List.getElem_cons_zero, List.getElem_cons_succ])
                go_simp
                refine hK.out _ _ ?_ (fun hHeld => ?_)
                focus ((try dsimp only); exact ⟨blk_cell ((Below.heap_setCell _ _ _ n (by show n ≠ n + 3; omega)).trans yb) 0, blk_cell ((Below.heap_setCell _ _ _ (n + 1) (by show n + 1 ≠ n + 3; omega)).trans yc) 0⟩; done)
                clear hK K
                (try simp only [Act.put, List.getElem_toArray, List.getElem_cons_zero, List.getElem_cons_succ, List.setIfInBounds_toArray, List.set_cons_zero, List.set_cons_succ])
                refine wpAnyH_done (by decide +kernel) ?_ _
                go_wp2_with fail
                refine bodyPost_end (results_none rfl _ _ _) rfl ?_
                refine ⟨HFR.out.trans ((Fr.of g2 (by omega)).trans (Fr.below ab.2)), .inl ⟨([tk.t], x, tk2), ?_, rfl, r2.under ab.2 hbn HA.out, ?_⟩⟩
                · rw [HOP.out, hr]
                · exact ab.1
              · have e5 : n + 3 ≠ h0 := by omega
                have e6 : n ≠ h0 := by omega
                have e7 : n + 1 ≠ h0 := by omega
                have yb := (Below.heap_setCell W9 ⟨n + 3, 3, none⟩ (.slice (some ⟨h0, 0, none⟩) (xs.length + 1) c0) n (by show n ≠ n + 3; omega)).trans hgb
                have yc := (Below.heap_setCell W9 ⟨n + 3, 3, none⟩ (.slice (some ⟨h0, 0, none⟩) (xs.length + 1) c0) (n + 1) (by show n + 1 ≠ n + 3; omega)).trans hgc
                (try simp only [List.getElem_toArray, List.getElem_cons_zero, List.getElem_cons_succ])
                go_simp
                refine hK.out _ _ ?_ (fun hHeld => ?_)
                focus ((try dsimp only); exact ⟨blk_cell yb 0, blk_cell yc 0⟩; done)
                clear hK K
                (try simp only [Act.put, List.getElem_toArray, List.getElem_cons_zero, List.getElem_cons_succ, List.setIfInBounds_toArray, List.set_cons_zero, List.set_cons_succ])
                refine wpAnyH_ready (rs := [10]) (by decide +kernel) (by simp) ?_
                refine AllReadyH.cons rfl (fun K hK => ?_) AllReadyH.nil
                have ab := ap.second
                have q0 := (cell_keep (Below.heap_setCell W9 ⟨n + 3, 3, none⟩ (.slice (some ⟨h0, 0, none⟩) (xs.length + 1) c0) h0 (by show h0 ≠ n + 3; omega)) (xs.length * 4)).trans z0
                have q1 := (cell_keep (Below.heap_setCell W9 ⟨n + 3, 3, none⟩ (.slice (some ⟨h0, 0, none⟩) (xs.length + 1) c0) h0 (by show h0 ≠ n + 3; omega)) (xs.length * 4 + 1)).trans z1
                have q2 := (cell_keep (Below.heap_setCell W9 ⟨n + 3, 3, none⟩ (.slice (some ⟨h0, 0, none⟩) (xs.length + 1) c0) h0 (by show h0 ≠ n + 3; omega)) (xs.length * 4 + 2)).trans z2
                have q3 := (cell_keep (Below.heap_setCell W9 ⟨n + 3, 3, none⟩ (.slice (some ⟨h0, 0, none⟩) (xs.length + 1) c0) h0 (by show h0 ≠ n + 3; omega)) (xs.length * 4 + 3)).trans z3
                have qf : ∀ i, (W9.setCell ⟨n + 3, 3, none⟩ (.slice (some ⟨h0, 0, none⟩) (xs.length + 1) c0)).frozen? ⟨h0, i, none⟩ = false := fun i => (World.frozen?_of_block (a := ⟨h0, i, none⟩) (Below.heap_setCell W9 ⟨n + 3, 3, none⟩ (.slice (some ⟨h0, 0, none⟩) (xs.length + 1) c0) h0 (by show h0 ≠ n + 3; omega))).trans (ap.cells.2 i)
                have qf0 := qf (xs.length * 4)
                have qf1 := qf (xs.length * 4 + 1)
                have qf2 := qf (xs.length * 4 + 2)
                have qf3 := qf (xs.length * 4 + 3)
                clear qf
                (try simp only [List.getElem_toArray, List.getElem_cons_zero, List.getElem_cons_succ])
                go_simp
                refine hK.out _ _ ?_ (fun hHeld => ?_)
                focus ((try dsimp only); exact ⟨blk_cell ((put4_far _ (i := xs.length * 4) ⟨pk, pt, .slice A1 n1 c1, .slice A2 n2 c2⟩ e6).trans yb) 0, blk_cell ((put4_far _ (i := xs.length * 4) ⟨pk, pt, .slice A1 n1 c1, .slice A2 n2 c2⟩ e7).trans yc) 0⟩; done)
                clear hK K
                (try simp only [Act.put, List.getElem_toArray, List.getElem_cons_zero, List.getElem_cons_succ, List.setIfInBounds_toArray, List.set_cons_zero, List.set_cons_succ])
                refine wpAnyH_done (by decide +kernel) ?_ _
                simp only [put4] at ab
                go_wp2_with fail
                refine bodyPost_end (results_none rfl _ _ _) rfl ?_
                refine ⟨HFR.out.trans ((Fr.of g2 (by omega)).trans (Fr.below ab.2)), .inl ⟨([tk.t], x, tk2), ?_, rfl, r2.under ab.2 hbn HA.out, ?_⟩⟩
                · rw [HOP.out, hr]
                · exact ab.1
          · have hba := grew_alloc (World.grownBy.refl W0 (some b)) (Obj.cells #[.int .i64 0, .string ⟨#[]⟩, .slice none 0 0, .slice none 0 0] 25 (0, 0))
            have hbb := (Below.refl W0.heap.size W0).alloc (Nat.le_refl _) (Obj.cells #[.int .i64 0, .string ⟨#[]⟩, .slice none 0 0, .slice none 0 0] 25 (0, 0))
            have i1 := i0.keep hbn hba
            have g1 := g0.trans hba
            have r1 := r0.on hbb
            have hz := heap_alloc_new W0 (Obj.cells #[.int .i64 0, .string ⟨#[]⟩, .slice none 0 0, .slice none 0 0] 25 (0, 0))
            have hzb : b < W0.heap.size := r0.lt
            (try simp only [List.getElem_toArray, List.getElem_cons_zero, List.getElem_cons_succ])
            go_simp
            refine hK.out _ _ ?_ (fun hHeld => ?_)
            focus ((try dsimp only); exact ⟨blk_cell i1.box 0, blk_cell i1.boxa 0⟩; done)
            clear hK K
            (try simp only [Act.put, List.getElem_toArray, List.getElem_cons_zero, List.getElem_cons_succ, List.setIfInBounds_toArray, List.set_cons_zero, List.set_cons_succ])
            clear hba hbb r0
            generalize (World.alloc _ _) = W1 at i1 g1 r1 hz hHeld ⊢
            generalize W0.heap.size = gz at hz hzb ⊢
            refine wpAnyH_ready (rs := [1, 5]) (by decide +kernel) (by simp) ?_
            refine AllReadyH.cons rfl (fun K hK => ?_) (AllReadyH.cons rfl (fun K hK => ?_) AllReadyH.nil)
            · have cl : W1.cell? ⟨n + 3, 3, none⟩ = some (.slice Al xs.length cl0) := blk_cell i1.val 3
              (try simp only [List.getElem_toArray, List.getElem_cons_zero, List.getElem_cons_succ])
              go_simp
              refine hK.out _ _ ?_ (fun hHeld => ?_)
              focus ((try dsimp only); exact ⟨blk_cell i1.box 0, blk_cell i1.boxa 0⟩; done)
              clear hK K
              (try simp only [Act.put, List.getElem_toArray, List.getElem_cons_zero, List.getElem_cons_succ, List.setIfInBounds_toArray, List.set_cons_zero, List.set_cons_succ])
              clear cl
              refine takeSome (i := 6) (v := ?_) (by decide +kernel) rfl (by rfl) (by decide +kernel) (by decide +kernel) (fun _ _ _ h => h) (by assumption) ?_ ?_
              rotate_left
              focus (intro w0 hSw; (try dsimp only at hSw); go_simp; (try (with_reducible rfl)); done)
              (try simp only [Act.put, List.getElem_toArray, List.getElem_cons_zero, List.getElem_cons_succ, List.setIfInBounds_toArray, List.set_cons_zero, List.set_cons_succ])
              refine wpAnyH_ready (rs := [5]) (by decide +kernel) (by simp) ?_
              refine AllReadyH.cons rfl (fun K hK => ?_) AllReadyH.nil
              (try simp only [List.getElem_toArray, List.getElem_cons_zero, List.getElem_cons_succ])
              go_simp
              go_at_call 23
              refine (HV.out _ _ r1 hT1).mono ?_
              rintro e' W2 ⟨hG, ⟨⟨pk, pt, pkv, plv⟩, x, tk2, F0, hr, rfl, hR2, hV, hF⟩ | ⟨a', e2, hr, rfl⟩⟩
              case inr =>
                refine ⟨rfl, ⟨HFR.out.trans (Fr.of (g1.trans hG) (by omega)), .inr ⟨a', e2, ?_, rfl⟩⟩⟩
                exact (by rw [HOP.out, hr])
              obtain ⟨A1, n1, c1, A2, n2, c2, rfl, rfl⟩ := hV.slices
              have i2 := i1.keep hbn hG
              have g2 := g1.trans hG
              have hF := fun k hk => (⟨Nat.le_trans g1.size (hF k hk).1, (hF k hk).2⟩ : Wd.heap.size ≤ k ∧ k < W2.heap.size)
              simp only [PV.val]
              have hz := (hG.block gz (blk_lt hz) (by simp; omega)).trans hz
              refine hK.out _ _ ?_ (fun hHeld => ?_)
              focus ((try dsimp only); exact ⟨blk_cell i2.box 0, blk_cell i2.boxa 0⟩; done)
              clear hK K
              (try simp only [Act.put, List.getElem_toArray, List.getElem_cons_zero, List.getElem_cons_succ, List.setIfInBounds_toArray, List.set_cons_zero, List.set_cons_succ])
              clear hG r1
              have r2 := hR2
              clear hR2
              refine wpAnyH_ready (rs := [8]) (by decide +kernel) (by simp) ?_
              refine AllReadyH.cons rfl (fun K hK => ?_) AllReadyH.nil
              refine step_append_row 4 72 25 23 iV zV Tryd.underlying23 hiV hzV hsV hbV hcV (by decide) i2.list (by have := g2.size; omega) zeroPV.cells rfl (by decide) gz 1 ?_ (by unfold maxLen; omega) (by omega) rfl _ _ rfl rfl rfl ?_
              · intro j u hu
                rw [blk_cell hz]
                match j, hu with
                | 0, hu => exact hu
                | 1, hu => exact hu
                | 2, hu => exact hu
                | 3, hu => exact hu
              rintro h0 c0 W9 hrow hg hh0
              have ap : Apd b n ar 7 d kv (.slice Al xs.length cl0) l F (ks ++ [tk.t]) xs Wd W2 W9 F0 ⟨pk, pt, .slice A1 n1 c1, .slice A2 n2 c2⟩ x h0 c0 := ⟨i2, hnd, g2.size, hV, hF, hkl, hll, hrow, hg, hh0⟩
              have bx := ap.base
              obtain ⟨⟨z0, z1, z2, z3⟩, zf⟩ := ap.cells
              have hgb : W9.heap[n]? = _ := (hg.block n (blk_lt i2.box) (fun e => by have := i2.list.lt _ e.symm; omega)).trans i2.box
              have hgc : W9.heap[n + 1]? = _ := (hg.block (n + 1) (blk_lt i2.boxa) (fun e => by have := i2.list.lt _ e.symm; omega)).trans i2.boxa
              have hgv : W9.heap[n + 3]? = _ := (hg.block (n + 3) (blk_lt i2.val) (fun e => by have := i2.list.lt _ e.symm; omega)).trans i2.val
              have v3 : W9.cell? ⟨n + 3, 3, none⟩ = some (.slice Al xs.length cl0) := blk_cell hgv 3
              have vf := blk_frozen hgv 3
              refine hK.out _ _ ?_ (fun hHeld => ?_)
              focus ((try dsimp only); exact ⟨blk_cell hgb 0, blk_cell hgc 0⟩; done)
              clear hK K
              (try simp only [Act.put, List.getElem_toArray, List.getElem_cons_zero, List.getElem_cons_succ, List.setIfInBounds_toArray, List.set_cons_zero, List.set_cons_succ])
              have zf0 := zf (xs.length * 4)
              have zf1 := zf (xs.length * 4 + 1)
              have zf2 := zf (xs.length * 4 + 2)
              have zf3 := zf (xs.length * 4 + 3)
              clear zf
              refine takeSome (i := 9) (v := ?_) (by decide +kernel) rfl (by rfl) (by decide +kernel) (by decide +kernel) (fun _ _ _ h => h) (by assumption) ?_ ?_
              rotate_left
              focus (intro w0 hSw; (try dsimp only at hSw); go_simp; (try (with_reducible rfl)); done)
              (try simp only [Act.put, List.getElem_toArray, List.getElem_cons_zero, List.getElem_cons_succ, List.setIfInBounds_toArray, List.set_cons_zero, List.set_cons_succ])
              refine takeSome (i := 11) (v := ?_) (by decide +kernel) rfl (by rfl) (by decide +kernel) (by decide +kernel) (fun _ _ _ h => h) (by assumption) ?_ ?_
              rotate_left
              focus (intro w0 hSw; (try dsimp only at hSw); go_simp; (try (with_reducible rfl)); done)
              (try simp only [Act.put, List.getElem_toArray, List.getElem_cons_zero, List.getElem_cons_succ, List.setIfInBounds_toArray, List.set_cons_zero, List.set_cons_succ])
              refine wpAnyH_ready (rs := [10, 12]) (by decide +kernel) (by simp) ?_
              refine AllReadyH.cons rfl (fun K hK => ?_) (AllReadyH.cons rfl (fun K hK => ?_) AllReadyH.nil)
              · have e5 : n + 3 ≠ h0 := by omega
                have e6 : n ≠ h0 := by omega
                have e7 : n + 1 ≠ h0 := by omega
                have y3 : (put4 W9 h0 (xs.length * 4) ⟨pk, pt, .slice A1 n1 c1, .slice A2 n2 c2⟩).cell? ⟨n + 3, 3, none⟩ = some (.slice Al xs.length cl0) := (cell_keep (put4_far W9 _ e5) 3).trans v3
                have yf : (put4 W9 h0 (xs.length * 4) ⟨pk, pt, .slice A1 n1 c1, .slice A2 n2 c2⟩).frozen? ⟨n + 3, 3, none⟩ = false := blk_frozen ((put4_far W9 _ e5).trans hgv) 3
                have yb := (put4_far W9 (i := xs.length * 4) ⟨pk, pt, .slice A1 n1 c1, .slice A2 n2 c2⟩ e6).trans hgb
                have yc := (put4_far W9 (i := xs.length * 4) ⟨pk, pt, .slice A1 n1 c1, .slice A2 n2 c2⟩ e7).trans hgc
                (try simp only [List.getElem_toArray, List.getElem_cons_zero, List.getElem_cons_succ])
                go_simp
                refine hK.out _ _ ?_ (fun hHeld => ?_)
                focus ((try dsimp only); exact ⟨blk_cell yb 0, blk_cell yc 0⟩; done)
                clear hK K
                (try simp only [Act.put, List.getElem_toArray, List.getElem_cons_zero, List.getElem_cons_succ, List.setIfInBounds_toArray, List.set_cons_zero, List.set_cons_succ])
                refine wpAnyH_ready (rs := [12]) (by decide +kernel) (by simp) ?_
                refine AllReadyH.cons rfl (fun K hK => ?_) AllReadyH.nil
                have ab := ap.first
                simp only [put4] at ab y3 yf
                (try simp only [List.getElem_toArray, List.getElem_cons_zero, List.getElem_cons_succ])
                go_simp
                refine hK.out _ _ ?_ (fun hHeld => ?_)
                focus ((try dsimp only); exact ⟨blk_cell ((Below.heap_setCell _ _ _ n (by show n ≠ n + 3; omega)).trans yb) 0, blk_cell ((Below.heap_setCell _ _ _ (n + 1) (by show n + 1 ≠ n + 3; omega)).trans yc) 0⟩; done)
                clear hK K
                (try simp only [Act.put, List.getElem_toArray, List.getElem_cons_zero, List.getElem_cons_succ, List.setIfInBounds_toArray, List.set_cons_zero, List.set_cons_succ])
                refine wpAnyH_done (by decide +kernel) ?_ _
                go_wp2_with fail
                refine bodyPost_end (results_none rfl _ _ _) rfl ?_
                refine ⟨HFR.out.trans ((Fr.of g2 (by omega)).trans (Fr.below ab.2)), .inl ⟨([tk.t], x, tk2), ?_, rfl, r2.under ab.2 hbn HA.out, ?_⟩⟩
                · rw [HOP.out, hr]
                · exact ab.1
              · have e5 : n + 3 ≠ h0 := by omega
                have e6 : n ≠ h0 := by omega
                have e7 : n + 1 ≠ h0 := by omega
                have yb := (Below.heap_setCell W9 ⟨n + 3, 3, none⟩ (.slice (some ⟨h0, 0, none⟩) (xs.length + 1) c0) n (by show n ≠ n + 3; omega)).trans hgb
                have yc := (Below.heap_setCell W9 ⟨n + 3, 3, none⟩ (.slice (some ⟨h0, 0, none⟩) (xs.length + 1) c0) (n + 1) (by show n + 1 ≠ n + 3; omega)).trans hgc
                (try simp only [List.getElem_toArray, List.getElem_cons_zero, List.getElem_cons_succ])
                go_simp
                refine hK.out _ _ ?_ (fun hHeld => ?_)
                focus ((try dsimp only); exact ⟨blk_cell yb 0, blk_cell yc 0⟩; done)
                clear hK K
                (try simp only [Act.put, List.getElem_toArray, List.getElem_cons_zero, List.getElem_cons_succ, List.setIfInBounds_toArray, List.set_cons_zero, List.set_cons_succ])
                refine wpAnyH_ready (rs := [10]) (by decide +kernel) (by simp) ?_
                refine AllReadyH.cons rfl (fun K hK => ?_) AllReadyH.nil
                have ab := ap.second
                have q0 := (cell_keep (Below.heap_setCell W9 ⟨n + 3, 3, none⟩ (.slice (some ⟨h0, 0, none⟩) (xs.length + 1) c0) h0 (by show h0 ≠ n + 3; omega)) (xs.length * 4)).trans z0
                have q1 := (cell_keep (Below.heap_setCell W9 ⟨n + 3, 3, none⟩ (.slice (some ⟨h0, 0, none⟩) (xs.length + 1) c0) h0 (by show h0 ≠ n + 3; omega)) (xs.length * 4 + 1)).trans z1
                have q2 := (cell_keep (Below.heap_setCell W9 ⟨n + 3, 3, none⟩ (.slice (some ⟨h0, 0, none⟩) (xs.length + 1) c0) h0 (by show h0 ≠ n + 3; omega)) (xs.length * 4 + 2)).trans z2
                have q3 := (cell_keep (Below.heap_setCell W9 ⟨n + 3, 3, none⟩ (.slice (some ⟨h0, 0, none⟩) (xs.length + 1) c0) h0 (by show h0 ≠ n + 3; omega)) (xs.length * 4 + 3)).trans z3
                have qf : ∀ i, (W9.setCell ⟨n + 3, 3, none⟩ (.slice (some ⟨h0, 0, none⟩) (xs.length + 1) c0)).frozen? ⟨h0, i, none⟩ = false := fun i => (World.frozen?_of_block (a := ⟨h0, i, none⟩) (Below.heap_setCell W9 ⟨n + 3, 3, none⟩ (.slice (some ⟨h0, 0, none⟩) (xs.length + 1) c0) h0 (by show h0 ≠ n + 3; omega))).trans (ap.cells.2 i)
                have qf0 := qf (xs.length * 4)
                have qf1 := qf (xs.length * 4 + 1)
                have qf2 := qf (xs.length * 4 + 2)
                have qf3 := qf (xs.length * 4 + 3)
                clear qf
                (try simp only [List.getElem_toArray, List.getElem_cons_zero, List.getElem_cons_succ])
                go_simp
                refine hK.out _ _ ?_ (fun hHeld => ?_)
                focus ((try dsimp only); exact ⟨blk_cell ((put4_far _ (i := xs.length * 4) ⟨pk, pt, .slice A1 n1 c1, .slice A2 n2 c2⟩ e6).trans yb) 0, blk_cell ((put4_far _ (i := xs.length * 4) ⟨pk, pt, .slice A1 n1 c1, .slice A2 n2 c2⟩ e7).trans yc) 0⟩; done)
                clear hK K
                (try simp only [Act.put, List.getElem_toArray, List.getElem_cons_zero, List.getElem_cons_succ, List.setIfInBounds_toArray, List.set_cons_zero, List.set_cons_succ])
                refine wpAnyH_done (by decide +kernel) ?_ _
                simp only [put4] at ab
                go_wp2_with fail
                refine bodyPost_end (results_none rfl _ _ _) rfl ?_
                refine ⟨HFR.out.trans ((Fr.of g2 (by omega)).trans (Fr.below ab.2)), .inl ⟨([tk.t], x, tk2), ?_, rfl, r2.under ab.2 hbn HA.out, ?_⟩⟩
                · rw [HOP.out, hr]
                · exact ab.1
            · (try simp only [List.getElem_toArray, List.getElem_cons_zero, List.getElem_cons_succ])
              go_simp
              go_at_call 23
              refine (HV.out _ _ r1 hT1).mono ?_
              rintro e' W2 ⟨hG, ⟨⟨pk, pt, pkv, plv⟩, x, tk2, F0, hr, rfl, hR2, hV, hF⟩ | ⟨a', e2, hr, rfl⟩⟩
              case inr =>
                refine ⟨rfl, ⟨HFR.out.trans (Fr.of (g1.trans hG) (by omega)), .inr ⟨a', e2, ?_, rfl⟩⟩⟩
                exact (by rw [HOP.out, hr])
              obtain ⟨A1, n1, c1, A2, n2, c2, rfl, rfl⟩ := hV.slices
              have i2 := i1.keep hbn hG
              have g2 := g1.trans hG
              have hF := fun k hk => (⟨Nat.le_trans g1.size (hF k hk).1, (hF k hk).2⟩ : Wd.heap.size ≤ k ∧ k < W2.heap.size)
              simp only [PV.val]
              have hz := (hG.block gz (blk_lt hz) (by simp; omega)).trans hz
              refine hK.out _ _ ?_ (fun hHeld => ?_)
              focus ((try dsimp only); exact ⟨blk_cell i2.box 0, blk_cell i2.boxa 0⟩; done)
              clear hK K
              (try simp only [Act.put, List.getElem_toArray, List.getElem_cons_zero, List.getElem_cons_succ, List.setIfInBounds_toArray, List.set_cons_zero, List.set_cons_succ])
              clear hG r1
              have r2 := hR2
              clear hR2
              refine wpAnyH_ready (rs := [1]) (by decide +kernel) (by simp) ?_
              refine AllReadyH.cons rfl (fun K hK => ?_) AllReadyH.nil
              have cl : W2.cell? ⟨n + 3, 3, none⟩ = some (.slice Al xs.length cl0) := blk_cell i2.val 3
              (try simp only [List.getElem_toArray, List.getElem_cons_zero, List.getElem_cons_succ])
              go_simp
              refine hK.out _ _ ?_ (fun hHeld => ?_)
              focus ((try dsimp only); exact ⟨blk_cell i2.box 0, blk_cell i2.boxa 0⟩; done)
              clear hK K
              (try simp only [Act.put, List.getElem_toArray, List.getElem_cons_zero, List.getElem_cons_succ, List.setIfInBounds_toArray, List.set_cons_zero, List.set_cons_succ])
              clear cl
              refine takeSome (i := 6) (v := ?_) (by decide +kernel) rfl (by rfl) (by decide +kernel) (by decide +kernel) (fun _ _ _ h => h) (by assumption) ?_ ?_
              rotate_left
              focus (intro w0 hSw; (try dsimp only at hSw); go_simp; (try (with_reducible rfl)); done)
              (try simp only [Act.put, List.getElem_toArray, List.getElem_cons_zero, List.getElem_cons_succ, List.setIfInBounds_toArray, List.set_cons_zero, List.set_cons_succ])
              refine wpAnyH_ready (rs := [8]) (by decide +kernel) (by simp) ?_
              refine AllReadyH.cons rfl (fun K hK => ?_) AllReadyH.nil
              refine step_append_row 4 72 25 23 iV zV Tryd.underlying23 hiV hzV hsV hbV hcV (by decide) i2.list (by have := g2.size; omega) zeroPV.cells rfl (by decide) gz 1 ?_ (by unfold maxLen; omega) (by omega) rfl _ _ rfl rfl rfl ?_
              · intro j u hu
                rw [blk_cell hz]
                match j, hu with
                | 0, hu => exact hu
                | 1, hu => exact hu
                | 2, hu => exact hu
                | 3, hu => exact hu
              rintro h0 c0 W9 hrow hg hh0
              have ap : Apd b n ar 7 d kv (.slice Al xs.length cl0) l F (ks ++ [tk.t]) xs Wd W2 W9 F0 ⟨pk, pt, .slice A1 n1 c1, .slice A2 n2 c2⟩ x h0 c0 := ⟨i2, hnd, g2.size, hV, hF, hkl, hll, hrow, hg, hh0⟩
              have bx := ap.base
              obtain ⟨⟨z0, z1, z2, z3⟩, zf⟩ := ap.cells
              have hgb : W9.heap[n]? = _ := (hg.block n (blk_lt i2.box) (fun e => by have := i2.list.lt _ e.symm; omega)).trans i2.box
              have hgc : W9.heap[n + 1]? = _ := (hg.block (n + 1) (blk_lt i2.boxa) (fun e => by have := i2.list.lt _ e.symm; omega)).trans i2.boxa
              have hgv : W9.heap[n + 3]? = _ := (hg.block (n + 3) (blk_lt i2.val) (fun e => by have := i2.list.lt _ e.symm; omega)).trans i2.val
              have v3 : W9.cell? ⟨n + 3, 3, none⟩ = some (.slice Al xs.length cl0) := blk_cell hgv 3
              have vf := blk_frozen hgv 3
              refine hK.out _ _ ?_ (fun hHeld => ?_)
              focus ((try dsimp only); exact ⟨blk_cell hgb 0, blk_cell hgc 0⟩; done)
              clear hK K
              (try simp only [Act.put, List.getElem_toArray, List.getElem_cons_zero, List.getElem_cons_succ, List.setIfInBounds_toArray, List.set_cons_zero, List.set_cons_succ])
              have zf0 := zf (xs.length * 4)
              have zf1 := zf (xs.length * 4 + 1)
              have zf2 := zf (xs.length * 4 + 2)
              have zf3 := zf (xs.length * 4 + 3)
              clear zf
              refine takeSome (i := 9) (v := ?_) (by decide +kernel) rfl (by rfl) (by decide +kernel) (by decide +kernel) (fun _ _ _ h => h) (by assumption) ?_ ?_
              rotate_left
              focus (intro w0 hSw; (try dsimp only at hSw); go_simp; (try (with_reducible rfl)); done)
              (try simp only [Act.put, List.getElem_toArray, List.getElem_cons_zero, List.getElem_cons_succ, List.setIfInBounds_toArray, List.set_cons_zero, List.set_cons_succ])
              refine takeSome (i := 11) (v := ?_) (by decide +kernel) rfl (by rfl) (by decide +kernel) (by decide +kernel) (fun _ _ _ h => h) (by assumption) ?_ ?_
              rotate_left
              focus (intro w0 hSw; (try dsimp only at hSw); go_simp; (try (with_reducible rfl)); done)
              (try simp only [Act.put, List.getElem_toArray, List.getElem_cons_zero, List.getElem_cons_succ, List.setIfInBounds_toArray, List.set_cons_zero, List.set_cons_succ])
              refine wpAnyH_ready (rs := [10, 12]) (by decide +kernel) (by simp) ?_
              refine AllReadyH.cons rfl (fun K hK => ?_) (AllReadyH.cons rfl (fun K hK => ?_) AllReadyH.nil)
              · have e5 : n + 3 ≠ h0 := by omega
                have e6 : n ≠ h0 := by omega
                have e7 : n + 1 ≠ h0 := by omega
                have y3 : (put4 W9 h0 (xs.length * 4) ⟨pk, pt, .slice A1 n1 c1, .slice A2 n2 c2⟩).cell? ⟨n + 3, 3, none⟩ = some (.slice Al xs.length cl0) := (cell_keep (put4_far W9 _ e5) 3).trans v3
                have yf : (put4 W9 h0 (xs.length * 4) ⟨pk, pt, .slice A1 n1 c1, .slice A2 n2 c2⟩).frozen? ⟨n + 3, 3, none⟩ = false := blk_frozen ((put4_far W9 _ e5).trans hgv) 3
                have yb := (put4_far W9 (i := xs.length * 4) ⟨pk, pt, .slice A1 n1 c1, .slice A2 n2 c2⟩ e6).trans hgb
                have yc := (put4_far W9 (i := xs.length * 4) ⟨pk, pt, .slice A1 n1 c1, .slice A2 n2 c2⟩ e7).trans hgc
                (try simp only [List.getElem_toArray, List.getElem_cons_zero, List.getElem_cons_succ])
                go_simp
                refine hK.out _ _ ?_ (fun hHeld => ?_)
                focus ((try dsimp only); exact ⟨blk_cell yb 0, blk_cell yc 0⟩; done)
                clear hK K
                (try simp only [Act.put, List.getElem_toArray, List.getElem_cons_zero, List.getElem_cons_succ, List.setIfInBounds_toArray, List.set_cons_zero, List.set_cons_succ])
                refine wpAnyH_ready (rs := [12]) (by decide +kernel) (by simp) ?_
                refine AllReadyH.cons rfl (fun K hK => ?_) AllReadyH.nil
                have ab := ap.first
                simp only [put4] at ab y3 yf
                (try simp only [List.getElem_toArray, List.getElem_cons_zero, List.getElem_cons_succ])
                go_simp
                refine hK.out _ _ ?_ (fun hHeld => ?_)
                focus ((try dsimp only); exact ⟨blk_cell ((Below.heap_setCell _ _ _ n (by show n ≠ n + 3; omega)).trans yb) 0, blk_cell ((Below.heap_setCell _ _ _ (n + 1) (by show n + 1 ≠ n + 3; omega)).trans yc) 0⟩; done)
                clear hK K
                (try simp only [Act.put, List.getElem_toArray, List.getElem_cons_zero, List.getElem_cons_succ, List.setIfInBounds_toArray, List.set_cons_zero, List.set_cons_succ])
                refine wpAnyH_done (by decide +kernel) ?_ _
                go_wp2_with fail
                refine bodyPost_end (results_none rfl _ _ _) rfl ?_
                refine ⟨HFR.out.trans ((Fr.of g2 (by omega)).trans (Fr.below ab.2)), .inl ⟨([tk.t], x, tk2), ?_, rfl, r2.under ab.2 hbn HA.out, ?_⟩⟩
                · rw [HOP.out, hr]
                · exact ab.1
              · have e5 : n + 3 ≠ h0 := by omega
                have e6 : n ≠ h0 := by omega
                have e7 : n + 1 ≠ h0 := by omega
                have yb := (Below.heap_setCell W9 ⟨n + 3, 3, none⟩ (.slice (some ⟨h0, 0, none⟩) (xs.length + 1) c0) n (by show n ≠ n + 3; omega)).trans hgb
                have yc := (Below.heap_setCell W9 ⟨n + 3, 3, none⟩ (.slice (some ⟨h0, 0, none⟩) (xs.length + 1) c0) (n + 1) (by show n + 1 ≠ n + 3; omega)).trans hgc
                (try simp only [List.getElem_toArray, List.getElem_cons_zero, List.getElem_cons_succ])
                go_simp
                refine hK.out _ _ ?_ (fun hHeld => ?_)
                focus ((try dsimp only); exact ⟨blk_cell yb 0, blk_cell yc 0⟩; done)
                clear hK K
                (try simp only [Act.put, List.getElem_toArray, List.getElem_cons_zero, List.getElem_cons_succ, List.setIfInBounds_toArray, List.set_cons_zero, List.set_cons_succ])
                refine wpAnyH_ready (rs := [10]) (by decide +kernel) (by simp) ?_
                refine AllReadyH.cons rfl (fun K hK => ?_) AllReadyH.nil
                have ab := ap.second
                have q0 := (cell_keep (Below.heap_setCell W9 ⟨n + 3, 3, none⟩ (.slice (some ⟨h0, 0, none⟩) (xs.length + 1) c0) h0 (by show h0 ≠ n + 3; omega)) (xs.length * 4)).trans z0
                have q1 := (cell_keep (Below.heap_setCell W9 ⟨n + 3, 3, none⟩ (.slice (some ⟨h0, 0, none⟩) (xs.length + 1) c0) h0 (by show h0 ≠ n + 3; omega)) (xs.length * 4 + 1)).trans z1
                have q2 := (cell_keep (Below.heap_setCell W9 ⟨n + 3, 3, none⟩ (.slice (some ⟨h0, 0, none⟩) (xs.length + 1) c0) h0 (by show h0 ≠ n + 3; omega)) (xs.length * 4 + 2)).trans z2
                have q3 := (cell_keep (Below.heap_setCell W9 ⟨n + 3, 3, none⟩ (.slice (some ⟨h0, 0, none⟩) (xs.length + 1) c0) h0 (by show h0 ≠ n + 3; omega)) (xs.length * 4 + 3)).trans z3
                have qf : ∀ i, (W9.setCell ⟨n + 3, 3, none⟩ (.slice (some ⟨h0, 0, none⟩) (xs.length + 1) c0)).frozen? ⟨h0, i, none⟩ = false := fun i => (World.frozen?_of_block (a := ⟨h0, i, none⟩) (Below.heap_setCell W9 ⟨n + 3, 3, none⟩ (.slice (some ⟨h0, 0, none⟩) (xs.length + 1) c0) h0 (by show h0 ≠ n + 3; omega))).trans (ap.cells.2 i)
                have qf0 := qf (xs.length * 4)
                have qf1 := qf (xs.length * 4 + 1)
                have qf2 := qf (xs.length * 4 + 2)
                have qf3 := qf (xs.length * 4 + 3)
                clear qf
                (try simp only [List.getElem_toArray, List.getElem_cons_zero, List.getElem_cons_succ])
                go_simp
                refine hK.out _ _ ?_ (fun hHeld => ?_)
                focus ((try dsimp only); exact ⟨blk_cell ((put4_far _ (i := xs.length * 4) ⟨pk, pt, .slice A1 n1 c1, .slice A2 n2 c2⟩ e6).trans yb) 0, blk_cell ((put4_far _ (i := xs.length * 4) ⟨pk, pt, .slice A1 n1 c1, .slice A2 n2 c2⟩ e7).trans yc) 0⟩; done)
                clear hK K
                (try simp only [Act.put, List.getElem_toArray, List.getElem_cons_zero, List.getElem_cons_succ, List.setIfInBounds_toArray, List.set_cons_zero, List.set_cons_succ])
                refine wpAnyH_done (by decide +kernel) ?_ _
                simp only [put4] at ab
                go_wp2_with fail
                refine bodyPost_end (results_none rfl _ _ _) rfl ?_
                refine ⟨HFR.out.trans ((Fr.of g2 (by omega)).trans (Fr.below ab.2)), .inl ⟨([tk.t], x, tk2), ?_, rfl, r2.under ab.2 hbn HA.out, ?_⟩⟩
                · rw [HOP.out, hr]
                · exact ab.1
        · refine ⟨rfl, HF2.out.trans (Fr.of hG3 (by omega)), .inr ⟨a', e2, ?_, rfl⟩⟩
          unfold objPart
          rw [if_pos HK5.out, HR1.out]
          simp only
          unfold takeN at hr2
          split at hr2
          · rename_i hk58
            rw [if_pos hk58, hr2]
          · rename_i hk58
            rw [if_neg hk58]
            cases hr2; rfl
      · refine ⟨rfl, HF1.out.trans (Fr.of hG2 (by omega)), .inr ⟨a', e2, ?_, rfl⟩⟩
        unfold objPart
        rw [if_pos HK5.out, hr1]
  · have HWN := Lib.hid (want_no hR 5 hk5)
    have HF0 : Hid (∀ w', Below W.heap.size W w' → Fr n b W w') := fun w' h => Fr.of (grew_of h _) (by omega)
    have hr : objPart s (valN s d) tk = .error (tk.a, 11) := by unfold objPart; rw [if_neg hk5]
    have HR := Lib.hid hr
    clear hr hS hR
    go_enter Tryd.func60, Tryd.ntmps60
    go_wp2_with fail
    go_at_call 24
    refine HWN.out.mono ?_
    rintro e' W2 ⟨rfl, hB⟩
    exact ⟨rfl, HF0.out _ hB, .inr ⟨tk.a, 11, HR.out, rfl⟩⟩
end Go.Proofs.YtmjooghfghmngaaDoor
