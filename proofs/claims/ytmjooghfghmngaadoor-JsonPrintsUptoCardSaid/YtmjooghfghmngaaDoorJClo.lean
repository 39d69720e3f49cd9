/- The closures of lists and objects: a part is read, and laid behind the others. -/
import Derived.Test.YtmjooghfghmngaaDoorJFin
namespace Go.Proofs.YtmjooghfghmngaaDoor
open Go.RowKit Go.Shelf Go.Lib

theorem infoV : (Tryd.prog.info? 25).map (fun i => (i.zero, i.size, i.bytes)) = some (some (.agg #[.int .i64 0, .string ⟨#[]⟩, .slice none 0 0, .slice none 0 0]), 4, 72) := by kernel_rfl
theorem row_slice4 {W : World} {B n m : Nat} {T : TypeId} {v : Value} {xs : List Value} (h : W.ownsRow B T n v m xs) : ∃ A c, v = .slice A m c := by
  rcases h.2 with ⟨hv, h0⟩ | ⟨_, c, _, hv, _⟩
  · exact ⟨none, 0, by rw [hv, h0]⟩
  · exact ⟨_, c, hv⟩

set_option maxHeartbeats 8000000 in
theorem listClo {b n d c : Nat} {ar : Int} {A : Option Addr} {s : List UInt8} {xs : List JV} {W : World} {tk : Tk} (hb : b < n) (hA : 0 < s.length → ∀ ad, A = some ad → ad.block < n) (har0 : 0 ≤ ar) (har1 : ar ≤ 31)
    (HV0 : ∀ W tk, Rd W b A c s tk.k (tk.a : Nat) tk.t tk.q → TW s tk → Calls Tryd.prog 23 #[.pointer (some ⟨b, 0, none⟩), .int .i64 (ar + 1)] W (OutV b A c s d (valN s d tk) W))
    (hR : Rd W b A c s tk.k (tk.a : Nat) tk.t tk.q) (hT : TW s tk) (hI : SeqI b n ar 6 d [] xs W) (hn : n + 4 ≤ W.heap.size) (hx : xs.length ≤ tk.a) :
    Calls Tryd.prog 59 #[.pointer (some ⟨n + 3, 0, none⟩), .pointer (some ⟨n, 0, none⟩), .pointer (some ⟨n + 1, 0, none⟩)] W (PartOut n b A c s ar 6 d (listPart (valN s d) tk) [] xs W) := by
  obtain ⟨kv, lv, l, F, hS⟩ := hI
  obtain ⟨Al, cl0, rfl⟩ := row_slice4 hS.list
  obtain ⟨iV, hiV0⟩ := Option.map_eq_some_iff.1 infoV
  obtain ⟨hiV, hiE⟩ := hiV0
  obtain ⟨zV, hzV, hsV, hbV, hcV⟩ : ∃ zV, iV.zero = some zV ∧ iV.size = 4 ∧ iV.bytes = 72 ∧ zV.cells.size = 4 := by
    simp only [Prod.mk.injEq] at hiE
    exact ⟨_, hiE.1, hiE.2.1, hiE.2.2, rfl⟩
  have hsm := hR.small
  have hta := hT.2.1
  have HV := Lib.hid HV0
  have i0 := hS.keep hb (grew_drew (World.grownBy.refl W (some b)))
  have r0 := hR.drew
  have HFR : Hid (Fr n b W W.drew) := ⟨rfl, rfl, rfl, Nat.le_refl _, fun _ _ _ => rfl⟩
  have hnd : n + 4 ≤ W.drew.heap.size := hn
  have hkl : ∀ k, kv.ownBlock = some k → k < W.drew.heap.size := fun k e => (hS.keys.lt k e).2
  have hll : ∀ k, Value.ownBlock (.slice Al xs.length cl0) = some k → k < W.drew.heap.size := fun k e => (hS.list.lt k e).2
  have HA := Lib.hid hA
  have hadd : IntKind.i64.wrap (ar + 1) = ar + 1 := IntWalk.i64_in _ (by omega)
  have hT1 := hT
  have hbn := hb
  have hi0 : (0 : Int) ≤ (xs.length : Int) := by omega
  have hi1 : (xs.length : Int) < (xs.length : Int) + 1 := by omega
  clear HV0 hS hR hA
  go_enter Tryd.func59, Tryd.ntmps59
  refine wp_region_held_drew (S := (fun w0 => w0.cell? ⟨n, 0, none⟩ = some (.pointer (some ⟨b, 0, none⟩)) ∧ w0.cell? ⟨n + 1, 0, none⟩ = some (.int .i64 ar))) (by kernel_rfl) ?_ (fun hHeld => ?_)
  · (try dsimp only)
    exact ⟨blk_cell i0.box 0, blk_cell i0.boxa 0⟩
  generalize (World.drew _) = W0 at i0 r0 HFR hnd hkl hll hHeld ⊢
  obtain ⟨Wd, hWd⟩ : ∃ Wd, Wd = W0 := ⟨_, rfl⟩
  have g0 : Wd.grownBy W0 (some b) := hWd ▸ World.grownBy.refl W0 (some b)
  rw [← hWd] at HFR hnd hkl hll
  clear hWd
  refine takeSome (i := 0) (v := ?_) (by decide +kernel) rfl (by rfl) (by decide +kernel) (by decide +kernel) (fun _ _ _ h => h) (by assumption) ?_ ?_
  rotate_left
  focus (intro w0 hSw; (try dsimp only at hSw); go_simp; (try (with_reducible rfl)); done)
  (try simp only [Act.put, List.getElem_toArray, List.getElem_cons_zero, List.setIfInBounds_toArray, List.set_cons_zero, List.set_cons_succ])
  refine takeSome (i := 2) (v := ?_) (by decide +kernel) rfl (by rfl) (by decide +kernel) (by decide +kernel) (fun _ _ _ h => h) (by assumption) ?_ ?_
  rotate_left
  focus (intro w0 hSw; (try dsimp only at hSw); go_simp; (try (with_reducible rfl)); done)
  (try simp only [Act.put, List.getElem_toArray, List.getElem_cons_zero, List.getElem_cons_succ, List.setIfInBounds_toArray, List.set_cons_zero, List.set_cons_succ])
  refine takeSome (i := 3) (v := ?_) (by decide +kernel) rfl (by rfl) (by decide +kernel) (by decide +kernel) (fun _ _ _ h => h) (by assumption) ?_ ?_
  rotate_left
  focus (intro w0 hSw; (try dsimp only at hSw); go_simp; (try (with_reducible rfl)); done)
  (try simp only [Act.put, List.getElem_toArray, List.getElem_cons_zero, List.getElem_cons_succ, List.setIfInBounds_toArray, List.set_cons_zero, List.set_cons_succ])
  refine takeSome (i := 4) (v := ?_) (by decide +kernel) rfl (by rfl) (by decide +kernel) (by decide +kernel) (fun _ _ _ h => h) (by assumption) ?_ ?_
  rotate_left
  focus (intro w0 hSw; (try dsimp only at hSw); go_simp; (try (with_reducible rfl)); done)
  (try simp only [Act.put, List.getElem_toArray, List.getElem_cons_zero, List.getElem_cons_succ, List.setIfInBounds_toArray, List.set_cons_zero, List.set_cons_succ])
  refine wpAnyH_ready (rs := [1, 5, 7]) (by decide +kernel) (by simp) ?_
  refine AllReadyH.cons rfl (fun K hK => ?_) (AllReadyH.cons rfl (fun K hK => ?_) (AllReadyH.cons rfl (fun K hK => ?_) AllReadyH.nil))
  · have cl : W0.cell? ⟨n + 3, 3, none⟩ = some (.slice Al xs.length cl0) := blk_cell i0.val 3
    (try simp only [List.getElem_toArray, List.getElem_cons_zero, List.getElem_cons_succ])
    go_simp
    refine hK.out _ _ ?_ (fun hHeld => ?_)
    focus ((try dsimp only); exact ⟨blk_cell i0.box 0, blk_cell i0.boxa 0⟩; done)
    clear hK K
    (try simp only [Act.put, List.getElem_toArray, List.getElem_cons_zero, List.getElem_cons_succ, List.setIfInBounds_toArray, List.set_cons_zero, List.set_cons_succ])
    clear cl
    refine takeSome (i := 6) (v := ?_) (by decide +kernel) rfl (by rfl) (by decide +kernel) (by decide +kernel) (fun _ _ _ h => h) (by assumption) ?_ ?_
    rotate_left
    focus (intro w0 hSw; (try dsimp only at hSw); go_simp; (try (with_reducible rfl)); done)
    (try simp only [Act.put, List.getElem_toArray, List.getElem_cons_zero, List.getElem_cons_succ, List.setIfInBounds_toArray, List.set_cons_zero, List.set_cons_succ])
    refine wpAnyH_ready (rs := [5, 7]) (by decide +kernel) (by simp) ?_
    refine AllReadyH.cons rfl (fun K hK => ?_) (AllReadyH.cons rfl (fun K hK => ?_) AllReadyH.nil)
    · (try simp only [List.getElem_toArray, List.getElem_cons_zero, List.getElem_cons_succ])
      go_simp
      go_at_call 23
      refine (HV.out _ _ r0 hT1).mono ?_
      rintro e' W1 ⟨hG, ⟨⟨pk, pt, pkv, plv⟩, x, tk2, F0, hr, rfl, hR2, hV, hF⟩ | ⟨a', e2, hr, rfl⟩⟩
      case inr =>
        refine ⟨rfl, ⟨HFR.out.trans (Fr.of (g0.trans hG) (by omega)), .inr ⟨a', e2, ?_, rfl⟩⟩⟩
        exact (by unfold listPart; rw [hr])
      obtain ⟨A1, n1, c1, A2, n2, c2, rfl, rfl⟩ := hV.slices
      have i1 := i0.keep hbn hG
      have g1 := g0.trans hG
      have hF := fun k hk => (⟨Nat.le_trans g0.size (hF k hk).1, (hF k hk).2⟩ : Wd.heap.size ≤ k ∧ k < W1.heap.size)
      simp only [PV.val]
      refine hK.out _ _ ?_ (fun hHeld => ?_)
      focus ((try dsimp only); exact ⟨blk_cell i1.box 0, blk_cell i1.boxa 0⟩; done)
      clear hK K
      (try simp only [Act.put, List.getElem_toArray, List.getElem_cons_zero, List.getElem_cons_succ, List.setIfInBounds_toArray, List.set_cons_zero, List.set_cons_succ])
      clear hG r0
      have r1 := hR2
      clear hR2
      refine wpAnyH_ready (rs := [7]) (by decide +kernel) (by simp) ?_
      refine AllReadyH.cons rfl (fun K hK => ?_) AllReadyH.nil
      have hba := grew_alloc (World.grownBy.refl W1 (some b)) (Obj.cells #[.int .i64 0, .string ⟨#[]⟩, .slice none 0 0, .slice none 0 0] 25 (0, 0))
      have hbb := (Below.refl W1.heap.size W1).alloc (Nat.le_refl _) (Obj.cells #[.int .i64 0, .string ⟨#[]⟩, .slice none 0 0, .slice none 0 0] 25 (0, 0))
      have i2 := i1.keep hbn hba
      have g2 := g1.trans hba
      have r2 := r1.on hbb
      have hz := heap_alloc_new W1 (Obj.cells #[.int .i64 0, .string ⟨#[]⟩, .slice none 0 0, .slice none 0 0] 25 (0, 0))
      have hzb : b < W1.heap.size := r1.lt
      have hV := hV.keep (F' := F0) (fun g hg => ⟨hg, hbb.block g (hF g hg).2⟩)
      have hF := fun k hk => (⟨(hF k hk).1, Nat.lt_of_lt_of_le (hF k hk).2 hbb.size⟩ : Wd.heap.size ≤ k ∧ k < (W1.alloc (Obj.cells #[.int .i64 0, .string ⟨#[]⟩, .slice none 0 0, .slice none 0 0] 25 (0, 0))).heap.size)
      (try simp only [List.getElem_toArray, List.getElem_cons_zero, List.getElem_cons_succ])
      go_simp
      refine hK.out _ _ ?_ (fun hHeld => ?_)
      focus ((try dsimp only); exact ⟨blk_cell i2.box 0, blk_cell i2.boxa 0⟩; done)
      clear hK K
      (try simp only [Act.put, List.getElem_toArray, List.getElem_cons_zero, List.getElem_cons_succ, List.setIfInBounds_toArray, List.set_cons_zero, List.set_cons_succ])
      clear hba hbb r1
      generalize (World.alloc _ _) = W2 at i2 g2 r2 hz hV hF hHeld ⊢
      generalize W1.heap.size = gz at hz hzb ⊢
      refine wpAnyH_ready (rs := [8]) (by decide +kernel) (by simp) ?_
      refine AllReadyH.cons rfl (fun K hK => ?_) AllReadyH.nil
      refine step_append_row 4 72 25 23 iV zV Tryd.underlying23 hiV hzV hsV hbV hcV (by decide) i2.list (by have := g2.size; omega) zeroPV.cells rfl (by decide) gz 1 ?_ (by unfold maxLen; omega) (by omega) rfl _ _ rfl rfl rfl ?_
      · intro j u hu
        rw [blk_cell hz]
        match j, hu with
        | 0, hu => exact hu
        | 1, hu => exact hu
        | 2, hu => exact hu
        | 3, hu => exact hu
      rintro h0 c0 W9 hrow hg hh0
      have ap : Apd b n ar 6 d kv (.slice Al xs.length cl0) l F [] xs Wd W2 W9 F0 ⟨pk, pt, .slice A1 n1 c1, .slice A2 n2 c2⟩ x h0 c0 := ⟨i2, hnd, g2.size, hV, hF, hkl, hll, hrow, hg, hh0⟩
      have bx := ap.base
      obtain ⟨⟨z0, z1, z2, z3⟩, zf⟩ := ap.cells
      have hgb : W9.heap[n]? = _ := (hg.block n (blk_lt i2.box) (fun e => by have := i2.list.lt _ e.symm; omega)).trans i2.box
      have hgc : W9.heap[n + 1]? = _ := (hg.block (n + 1) (blk_lt i2.boxa) (fun e => by have := i2.list.lt _ e.symm; omega)).trans i2.boxa
      have hgv : W9.heap[n + 3]? = _ := (hg.block (n + 3) (blk_lt i2.val) (fun e => by have := i2.list.lt _ e.symm; omega)).trans i2.val
      have v3 : W9.cell? ⟨n + 3, 3, none⟩ = some (.slice Al xs.length cl0) := blk_cell hgv 3
      have vf := blk_frozen hgv 3
      refine hK.out _ _ ?_ (fun hHeld => ?_)
      focus ((try dsimp only); exact ⟨blk_cell hgb 0, blk_cell hgc 0⟩; done)
      clear hK K
      (try simp only [Act.put, List.getElem_toArray, List.getElem_cons_zero, List.getElem_cons_succ, List.setIfInBounds_toArray, List.set_cons_zero, List.set_cons_succ])
      have zf0 := zf (xs.length * 4)
      have zf1 := zf (xs.length * 4 + 1)
      have zf2 := zf (xs.length * 4 + 2)
      have zf3 := zf (xs.length * 4 + 3)
      clear zf
      refine takeSome (i := 9) (v := ?_) (by decide +kernel) rfl (by rfl) (by decide +kernel) (by decide +kernel) (fun _ _ _ h => h) (by assumption) ?_ ?_
      rotate_left
      focus (intro w0 hSw; (try dsimp only at hSw); go_simp; (try (with_reducible rfl)); done)
      (try simp only [Act.put, List.getElem_toArray, List.getElem_cons_zero, List.getElem_cons_succ, List.setIfInBounds_toArray, List.set_cons_zero, List.set_cons_succ])
      refine takeSome (i := 11) (v := ?_) (by decide +kernel) rfl (by rfl) (by decide +kernel) (by decide +kernel) (fun _ _ _ h => h) (by assumption) ?_ ?_
      rotate_left
      focus (intro w0 hSw; (try dsimp only at hSw); go_simp; (try (with_reducible rfl)); done)
      (try simp only [Act.put, List.getElem_toArray, List.getElem_cons_zero, List.getElem_cons_succ, List.setIfInBounds_toArray, List.set_cons_zero, List.set_cons_succ])
      refine wpAnyH_ready (rs := [10, 12]) (by decide +kernel) (by simp) ?_
      refine AllReadyH.cons rfl (fun K hK => ?_) (AllReadyH.cons rfl (fun K hK => ?_) AllReadyH.nil)
      · have e5 : n + 3 ≠ h0 := by omega
        have e6 : n ≠ h0 := by omega
        have e7 : n + 1 ≠ h0 := by omega
        have y3 : (put4 W9 h0 (xs.length * 4) ⟨pk, pt, .slice A1 n1 c1, .slice A2 n2 c2⟩).cell? ⟨n + 3, 3, none⟩ = some (.slice Al xs.length cl0) := (cell_keep (put4_far W9 _ e5) 3).trans v3
        have yf : (put4 W9 h0 (xs.length * 4) ⟨pk, pt, .slice A1 n1 c1, .slice A2 n2 c2⟩).frozen? ⟨n + 3, 3, none⟩ = false := blk_frozen ((put4_far W9 _ e5).trans hgv) 3
        have yb := (put4_far W9 (i := xs.length * 4) ⟨pk, pt, .slice A1 n1 c1, .slice A2 n2 c2⟩ e6).trans hgb
        have yc := (put4_far W9 (i := xs.length * 4) ⟨pk, pt, .slice A1 n1 c1, .slice A2 n2 c2⟩ e7).trans hgc
        (try simp only [List.getElem_toArray, List.getElem_cons_zero, List.getElem_cons_succ])
        go_simp
        refine hK.out _ _ ?_ (fun hHeld => ?_)
        focus ((try dsimp only); exact ⟨blk_cell yb 0, blk_cell yc 0⟩; done)
        clear hK K
        (try simp only [Act.put, List.getElem_toArray, List.getElem_cons_zero, List.getElem_cons_succ, List.setIfInBounds_toArray, List.set_cons_zero, List.set_cons_succ])
        refine wpAnyH_ready (rs := [12]) (by decide +kernel) (by simp) ?_
        refine AllReadyH.cons rfl (fun K hK => ?_) AllReadyH.nil
        have ab := ap.first
        simp only [put4] at ab y3 yf
        (try simp only [List.getElem_toArray, List.getElem_cons_zero, List.getElem_cons_succ])
        go_simp
        refine hK.out _ _ ?_ (fun hHeld => ?_)
        focus ((try dsimp only); exact ⟨blk_cell ((Below.heap_setCell _ _ _ n (by show n ≠ n + 3; omega)).trans yb) 0, blk_cell ((Below.heap_setCell _ _ _ (n + 1) (by show n + 1 ≠ n + 3; omega)).trans yc) 0⟩; done)
        clear hK K
        (try simp only [Act.put, List.getElem_toArray, List.getElem_cons_zero, List.getElem_cons_succ, List.setIfInBounds_toArray, List.set_cons_zero, List.set_cons_succ])
        refine wpAnyH_done (by decide +kernel) ?_ _
        go_wp2_with fail
        refine bodyPost_end (results_none rfl _ _ _) rfl ?_
        refine ⟨HFR.out.trans ((Fr.of g2 (by omega)).trans (Fr.below ab.2)), .inl ⟨([], x, tk2), ?_, rfl, r2.under ab.2 hbn HA.out, ?_⟩⟩
        · unfold listPart; rw [hr]
        · exact ab.1
      · have e5 : n + 3 ≠ h0 := by omega
        have e6 : n ≠ h0 := by omega
        have e7 : n + 1 ≠ h0 := by omega
        have yb := (Below.heap_setCell W9 ⟨n + 3, 3, none⟩ (.slice (some ⟨h0, 0, none⟩) (xs.length + 1) c0) n (by show n ≠ n + 3; omega)).trans hgb
        have yc := (Below.heap_setCell W9 ⟨n + 3, 3, none⟩ (.slice (some ⟨h0, 0, none⟩) (xs.length + 1) c0) (n + 1) (by show n + 1 ≠ n + 3; omega)).trans hgc
        (try simp only [List.getElem_toArray, List.getElem_cons_zero, List.getElem_cons_succ])
        go_simp
        refine hK.out _ _ ?_ (fun hHeld => ?_)
        focus ((try dsimp only); exact ⟨blk_cell yb 0, blk_cell yc 0⟩; done)
        clear hK K
        (try simp only [Act.put, List.getElem_toArray, List.getElem_cons_zero, List.getElem_cons_succ, List.setIfInBounds_toArray, List.set_cons_zero, List.set_cons_succ])
        refine wpAnyH_ready (rs := [10]) (by decide +kernel) (by simp) ?_
        refine AllReadyH.cons rfl (fun K hK => ?_) AllReadyH.nil
        have ab := ap.second
        have q0 := (cell_keep (Below.heap_setCell W9 ⟨n + 3, 3, none⟩ (.slice (some ⟨h0, 0, none⟩) (xs.length + 1) c0) h0 (by show h0 ≠ n + 3; omega)) (xs.length * 4)).trans z0
        have q1 := (cell_keep (Below.heap_setCell W9 ⟨n + 3, 3, none⟩ (.slice (some ⟨h0, 0, none⟩) (xs.length + 1) c0) h0 (by show h0 ≠ n + 3; omega)) (xs.length * 4 + 1)).trans z1
        have q2 := (cell_keep (Below.heap_setCell W9 ⟨n + 3, 3, none⟩ (.slice (some ⟨h0, 0, none⟩) (xs.length + 1) c0) h0 (by show h0 ≠ n + 3; omega)) (xs.length * 4 + 2)).trans z2
        have q3 := (cell_keep (Below.heap_setCell W9 ⟨n + 3, 3, none⟩ (.slice (some ⟨h0, 0, none⟩) (xs.length + 1) c0) h0 (by show h0 ≠ n + 3; omega)) (xs.length * 4 + 3)).trans z3
        have qf : ∀ i, (W9.setCell ⟨n + 3, 3, none⟩ (.slice (some ⟨h0, 0, none⟩) (xs.length + 1) c0)).frozen? ⟨h0, i, none⟩ = false := fun i => (World.frozen?_of_block (a := ⟨h0, i, none⟩) (Below.heap_setCell W9 ⟨n + 3, 3, none⟩ (.slice (some ⟨h0, 0, none⟩) (xs.length + 1) c0) h0 (by show h0 ≠ n + 3; omega))).trans (ap.cells.2 i)
        have qf0 := qf (xs.length * 4)
        have qf1 := qf (xs.length * 4 + 1)
        have qf2 := qf (xs.length * 4 + 2)
        have qf3 := qf (xs.length * 4 + 3)
        clear qf
        (try simp only [List.getElem_toArray, List.getElem_cons_zero, List.getElem_cons_succ])
        go_simp
        refine hK.out _ _ ?_ (fun hHeld => ?_)
        focus ((try dsimp only); exact ⟨blk_cell ((put4_far _ (i := xs.length * 4) ⟨pk, pt, .slice A1 n1 c1, .slice A2 n2 c2⟩ e6).trans yb) 0, blk_cell ((put4_far _ (i := xs.length * 4) ⟨pk, pt, .slice A1 n1 c1, .slice A2 n2 c2⟩ e7).trans yc) 0⟩; done)
        clear hK K
        (try simp only [Act.put, List.getElem_toArray, List.getElem_cons_zero, List.getElem_cons_succ, List.setIfInBounds_toArray, List.set_cons_zero, List.set_cons_succ])
        refine wpAnyH_done (by decide +kernel) ?_ _
        simp only [put4] at ab
        go_wp2_with fail
        refine bodyPost_end (results_none rfl _ _ _) rfl ?_
        refine ⟨HFR.out.trans ((Fr.of g2 (by omega)).trans (Fr.below ab.2)), .inl ⟨([], x, tk2), ?_, rfl, r2.under ab.2 hbn HA.out, ?_⟩⟩
        · unfold listPart; rw [hr]
        · exact ab.1
    · have hba := grew_alloc (World.grownBy.refl W0 (some b)) (Obj.cells #[.int .i64 0, .string ⟨#[]⟩, .slice none 0 0, .slice none 0 0] 25 (0, 0))
      have hbb := (Below.refl W0.heap.size W0).alloc (Nat.le_refl _) (Obj.cells #[.int .i64 0, .string ⟨#[]⟩, .slice none 0 0, .slice none 0 0] 25 (0, 0))
      have i1 := i0.keep hbn hba
      have g1 := g0.trans hba
      have r1 := r0.on hbb
      have hz := heap_alloc_new W0 (Obj.cells #[.int .i64 0, .string ⟨#[]⟩, .slice none 0 0, .slice none 0 0] 25 (0, 0))
      have hzb : b < W0.heap.size := r0.lt
      (try simp only [List.getElem_toArray, List.getElem_cons_zero, List.getElem_cons_succ])
      go_simp
      refine hK.out _ _ ?_ (fun hHeld => ?_)
      focus ((try dsimp only); exact ⟨blk_cell i1.box 0, blk_cell i1.boxa 0⟩; done)
      clear hK K
      (try simp only [Act.put, List.getElem_toArray, List.getElem_cons_zero, List.getElem_cons_succ, List.setIfInBounds_toArray, List.set_cons_zero, List.set_cons_succ])
      clear hba hbb r0
      generalize (World.alloc _ _) = W1 at i1 g1 r1 hz hHeld ⊢
      generalize W0.heap.size = gz at hz hzb ⊢
      refine wpAnyH_ready (rs := [5]) (by decide +kernel) (by simp) ?_
      refine AllReadyH.cons rfl (fun K hK => ?_) AllReadyH.nil
      (try simp only [List.getElem_toArray, List.getElem_cons_zero, List.getElem_cons_succ])
      go_simp
      go_at_call 23
      refine (HV.out _ _ r1 hT1).mono ?_
      rintro e' W2 ⟨hG, ⟨⟨pk, pt, pkv, plv⟩, x, tk2, F0, hr, rfl, hR2, hV, hF⟩ | ⟨a', e2, hr, rfl⟩⟩
      case inr =>
        refine ⟨rfl, ⟨HFR.out.trans (Fr.of (g1.trans hG) (by omega)), .inr ⟨a', e2, ?_, rfl⟩⟩⟩
        exact (by unfold listPart; rw [hr])
      obtain ⟨A1, n1, c1, A2, n2, c2, rfl, rfl⟩ := hV.slices
      have i2 := i1.keep hbn hG
      have g2 := g1.trans hG
      have hF := fun k hk => (⟨Nat.le_trans g1.size (hF k hk).1, (hF k hk).2⟩ : Wd.heap.size ≤ k ∧ k < W2.heap.size)
      simp only [PV.val]
      have hz := (hG.block gz (blk_lt hz) (by simp; omega)).trans hz
      refine hK.out _ _ ?_ (fun hHeld => ?_)
      focus ((try dsimp only); exact ⟨blk_cell i2.box 0, blk_cell i2.boxa 0⟩; done)
      clear hK K
      (try simp only [Act.put, List.getElem_toArray, List.getElem_cons_zero, List.getElem_cons_succ, List.setIfInBounds_toArray, List.set_cons_zero, List.set_cons_succ])
      clear hG r1
      have r2 := hR2
      clear hR2
      refine wpAnyH_ready (rs := [8]) (by decide +kernel) (by simp) ?_
      refine AllReadyH.cons rfl (fun K hK => ?_) AllReadyH.nil
      refine step_append_row 4 72 25 23 iV zV Tryd.underlying23 hiV hzV hsV hbV hcV (by decide) i2.list (by have := g2.size; omega) zeroPV.cells rfl (by decide) gz 1 ?_ (by unfold maxLen; omega) (by omega) rfl _ _ rfl rfl rfl ?_
      · intro j u hu
        rw [blk_cell hz]
        match j, hu with
        | 0, hu => exact hu
        | 1, hu => exact hu
        | 2, hu => exact hu
        | 3, hu => exact hu
      rintro h0 c0 W9 hrow hg hh0
      have ap : Apd b n ar 6 d kv (.slice Al xs.length cl0) l F [] xs Wd W2 W9 F0 ⟨pk, pt, .slice A1 n1 c1, .slice A2 n2 c2⟩ x h0 c0 := ⟨i2, hnd, g2.size, hV, hF, hkl, hll, hrow, hg, hh0⟩
      have bx := ap.base
      obtain ⟨⟨z0, z1, z2, z3⟩, zf⟩ := ap.cells
      have hgb : W9.heap[n]? = _ := (hg.block n (blk_lt i2.box) (fun e => by have := i2.list.lt _ e.symm; omega)).trans i2.box
      have hgc : W9.heap[n + 1]? = _ := (hg.block (n + 1) (blk_lt i2.boxa) (fun e => by have := i2.list.lt _ e.symm; omega)).trans i2.boxa
      have hgv : W9.heap[n + 3]? = _ := (hg.block (n + 3) (blk_lt i2.val) (fun e => by have := i2.list.lt _ e.symm; omega)).trans i2.val
      have v3 : W9.cell? ⟨n + 3, 3, none⟩ = some (.slice Al xs.length cl0) := blk_cell hgv 3
      have vf := blk_frozen hgv 3
      refine hK.out _ _ ?_ (fun hHeld => ?_)
      focus ((try dsimp only); exact ⟨blk_cell hgb 0, blk_cell hgc 0⟩; done)
      clear hK K
      (try simp only [Act.put, List.getElem_toArray, List.getElem_cons_zero, List.getElem_cons_succ, List.setIfInBounds_toArray, List.set_cons_zero, List.set_cons_succ])
      have zf0 := zf (xs.length * 4)
      have zf1 := zf (xs.length * 4 + 1)
      have zf2 := zf (xs.length * 4 + 2)
      have zf3 := zf (xs.length * 4 + 3)
      clear zf
      refine takeSome (i := 9) (v := ?_) (by decide +kernel) rfl (by rfl) (by decide +kernel) (by decide +kernel) (fun _ _ _ h => h) (by assumption) ?_ ?_
      rotate_left
      focus (intro w0 hSw; (try dsimp only at hSw); go_simp; (try (with_reducible rfl)); done)
      (try simp only [Act.put, List.getElem_toArray, List.getElem_cons_zero, List.getElem_cons_succ, List.setIfInBounds_toArray, List.set_cons_zero, List.set_cons_succ])
      refine takeSome (i := 11) (v := ?_) (by decide +kernel) rfl (by rfl) (by decide +kernel) (by decide +kernel) (fun _ _ _ h => h) (by assumption) ?_ ?_
      rotate_left
      focus (intro w0 hSw; (try dsimp only at hSw); go_simp; (try (with_reducible rfl)); done)
      (try simp only [Act.put, List.getElem_toArray, List.getElem_cons_zero, List.getElem_cons_succ, List.setIfInBounds_toArray, List.set_cons_zero, List.set_cons_succ])
      refine wpAnyH_ready (rs := [10, 12]) (by decide +kernel) (by simp) ?_
      refine AllReadyH.cons rfl (fun K hK => ?_) (AllReadyH.cons rfl (fun K hK => ?_) AllReadyH.nil)
      · have e5 : n + 3 ≠ h0 := by omega
        have e6 : n ≠ h0 := by omega
        have e7 : n + 1 ≠ h0 := by omega
        have y3 : (put4 W9 h0 (xs.length * 4) ⟨pk, pt, .slice A1 n1 c1, .slice A2 n2 c2⟩).cell? ⟨n + 3, 3, none⟩ = some (.slice Al xs.length cl0) := (cell_keep (put4_far W9 _ e5) 3).trans v3
        have yf : (put4 W9 h0 (xs.length * 4) ⟨pk, pt, .slice A1 n1 c1, .slice A2 n2 c2⟩).frozen? ⟨n + 3, 3, none⟩ = false := blk_frozen ((put4_far W9 _ e5).trans hgv) 3
        have yb := (put4_far W9 (i := xs.length * 4) ⟨pk, pt, .slice A1 n1 c1, .slice A2 n2 c2⟩ e6).trans hgb
        have yc := (put4_far W9 (i := xs.length * 4) ⟨pk, pt, .slice A1 n1 c1, .slice A2 n2 c2⟩ e7).trans hgc
        (try simp only [List.getElem_toArray, List.getElem_cons_zero, List.getElem_cons_succ])
        go_simp
        refine hK.out _ _ ?_ (fun hHeld => ?_)
        focus ((try dsimp only); exact ⟨blk_cell yb 0, blk_cell yc 0⟩; done)
        clear hK K
        (try simp only [Act.put, List.getElem_toArray, List.getElem_cons_zero, List.getElem_cons_succ, List.setIfInBounds_toArray, List.set_cons_zero, List.set_cons_succ])
        refine wpAnyH_ready (rs := [12]) (by decide +kernel) (by simp) ?_
        refine AllReadyH.cons rfl (fun K hK => ?_) AllReadyH.nil
        have ab := ap.first
        simp only [put4] at ab y3 yf
        (try simp only [List.getElem_toArray, List.getElem_cons_zero, List.getElem_cons_succ])
        go_simp
        refine hK.out _ _ ?_ (fun hHeld => ?_)
        focus ((try dsimp only); exact ⟨blk_cell ((Below.heap_setCell _ _ _ n (by show n ≠ n + 3; omega)).trans yb) 0, blk_cell ((Below.heap_setCell _ _ _ (n + 1) (by show n + 1 ≠ n + 3; omega)).trans yc) 0⟩; done)
        clear hK K
        (try simp only [Act.put, List.getElem_toArray, List.getElem_cons_zero, List.getElem_cons_succ, List.setIfInBounds_toArray, List.set_cons_zero, List.set_cons_succ])
        refine wpAnyH_done (by decide +kernel) ?_ _
        go_wp2_with fail
        refine bodyPost_end (results_none rfl _ _ _) rfl ?_
        refine ⟨HFR.out.trans ((Fr.of g2 (by omega)).trans (Fr.below ab.2)), .inl ⟨([], x, tk2), ?_, rfl, r2.under ab.2 hbn HA.out, ?_⟩⟩
        · unfold listPart; rw [hr]
        · exact ab.1
      · have e5 : n + 3 ≠ h0 := by omega
        have e6 : n ≠ h0 := by omega
        have e7 : n + 1 ≠ h0 := by omega
        have yb := (Below.heap_setCell W9 ⟨n + 3, 3, none⟩ (.slice (some ⟨h0, 0, none⟩) (xs.length + 1) c0) n (by show n ≠ n + 3; omega)).trans hgb
        have yc := (Below.heap_setCell W9 ⟨n + 3, 3, none⟩ (.slice (some ⟨h0, 0, none⟩) (xs.length + 1) c0) (n + 1) (by show n + 1 ≠ n + 3; omega)).trans hgc
        (try simp only [List.getElem_toArray, List.getElem_cons_zero, List.getElem_cons_succ])
        go_simp
        refine hK.out _ _ ?_ (fun hHeld => ?_)
        focus ((try dsimp only); exact ⟨blk_cell yb 0, blk_cell yc 0⟩; done)
        clear hK K
        (try simp only [Act.put, List.getElem_toArray, List.getElem_cons_zero, List.getElem_cons_succ, List.setIfInBounds_toArray, List.set_cons_zero, List.set_cons_succ])
        refine wpAnyH_ready (rs := [10]) (by decide +kernel) (by simp) ?_
        refine AllReadyH.cons rfl (fun K hK => ?_) AllReadyH.nil
        have ab := ap.second
        have q0 := (cell_keep (Below.heap_setCell W9 ⟨n + 3, 3, none⟩ (.slice (some ⟨h0, 0, none⟩) (xs.length + 1) c0) h0 (by show h0 ≠ n + 3; omega)) (xs.length * 4)).trans z0
        have q1 := (cell_keep (Below.heap_setCell W9 ⟨n + 3, 3, none⟩ (.slice (some ⟨h0, 0, none⟩) (xs.length + 1) c0) h0 (by show h0 ≠ n + 3; omega)) (xs.length * 4 + 1)).trans z1
        have q2 := (cell_keep (Below.heap_setCell W9 ⟨n + 3, 3, none⟩ (.slice (some ⟨h0, 0, none⟩) (xs.length + 1) c0) h0 (by show h0 ≠ n + 3; omega)) (xs.length * 4 + 2)).trans z2
        have q3 := (cell_keep (Below.heap_setCell W9 ⟨n + 3, 3, none⟩ (.slice (some ⟨h0, 0, none⟩) (xs.length + 1) c0) h0 (by show h0 ≠ n + 3; omega)) (xs.length * 4 + 3)).trans z3
        have qf : ∀ i, (W9.setCell ⟨n + 3, 3, none⟩ (.slice (some ⟨h0, 0, none⟩) (xs.length + 1) c0)).frozen? ⟨h0, i, none⟩ = false := fun i => (World.frozen?_of_block (a := ⟨h0, i, none⟩) (Below.heap_setCell W9 ⟨n + 3, 3, none⟩ (.slice (some ⟨h0, 0, none⟩) (xs.length + 1) c0) h0 (by show h0 ≠ n + 3; omega))).trans (ap.cells.2 i)
        have qf0 := qf (xs.length * 4)
        have qf1 := qf (xs.length * 4 + 1)
        have qf2 := qf (xs.length * 4 + 2)
        have qf3 := qf (xs.length * 4 + 3)
        clear qf
        (try simp only [List.getElem_toArray, List.getElem_cons_zero, List.getElem_cons_succ])
        go_simp
        refine hK.out _ _ ?_ (fun hHeld => ?_)
        focus ((try dsimp only); exact ⟨blk_cell ((put4_far _ (i := xs.length * 4) ⟨pk, pt, .slice A1 n1 c1, .slice A2 n2 c2⟩ e6).trans yb) 0, blk_cell ((put4_far _ (i := xs.length * 4) ⟨pk, pt, .slice A1 n1 c1, .slice A2 n2 c2⟩ e7).trans yc) 0⟩; done)
        clear hK K
        (try simp only [Act.put, List.getElem_toArray, List.getElem_cons_zero, List.getElem_cons_succ, List.setIfInBounds_toArray, List.set_cons_zero, List.set_cons_succ])
        refine wpAnyH_done (by decide +kernel) ?_ _
        simp only [put4] at ab
        go_wp2_with fail
        refine bodyPost_end (results_none rfl _ _ _) rfl ?_
        refine ⟨HFR.out.trans ((Fr.of g2 (by omega)).trans (Fr.below ab.2)), .inl ⟨([], x, tk2), ?_, rfl, r2.under ab.2 hbn HA.out, ?_⟩⟩
        · unfold listPart; rw [hr]
        · exact ab.1
  · (try simp only [List.getElem_toArray, List.getElem_cons_zero, List.getElem_cons_succ])
    go_simp
    go_at_call 23
    refine (HV.out _ _ r0 hT1).mono ?_
    rintro e' W1 ⟨hG, ⟨⟨pk, pt, pkv, plv⟩, x, tk2, F0, hr, rfl, hR2, hV, hF⟩ | ⟨a', e2, hr, rfl⟩⟩
    case inr =>
      refine ⟨rfl, ⟨HFR.out.trans (Fr.of (g0.trans hG) (by omega)), .inr ⟨a', e2, ?_, rfl⟩⟩⟩
      exact (by unfold listPart; rw [hr])
    obtain ⟨A1, n1, c1, A2, n2, c2, rfl, rfl⟩ := hV.slices
    have i1 := i0.keep hbn hG
    have g1 := g0.trans hG
    have hF := fun k hk => (⟨Nat.le_trans g0.size (hF k hk).1, (hF k hk).2⟩ : Wd.heap.size ≤ k ∧ k < W1.heap.size)
    simp only [PV.val]
    refine hK.out _ _ ?_ (fun hHeld => ?_)
    focus ((try dsimp only); exact ⟨blk_cell i1.box 0, blk_cell i1.boxa 0⟩; done)
    clear hK K
    (try simp only [Act.put, List.getElem_toArray, List.getElem_cons_zero, List.getElem_cons_succ, List.setIfInBounds_toArray, List.set_cons_zero, List.set_cons_succ])
    clear hG r0
    have r1 := hR2
    clear hR2
    refine wpAnyH_ready (rs := [1, 7]) (by decide +kernel) (by simp) ?_
    refine AllReadyH.cons rfl (fun K hK => ?_) (AllReadyH.cons rfl (fun K hK => ?_) AllReadyH.nil)
    · have cl : W1.cell? ⟨n + 3, 3, none⟩ = some (.slice Al xs.length cl0) := blk_cell i1.val 3
      (try simp only [List.getElem_toArray, List.getElem_cons_zero, List.getElem_cons_succ])
      go_simp
      refine hK.out _ _ ?_ (fun hHeld => ?_)
      focus ((try dsimp only); exact ⟨blk_cell i1.box 0, blk_cell i1.boxa 0⟩; done)
      clear hK K
      (try simp only [Act.put, List.getElem_toArray, List.getElem_cons_zero, List.getElem_cons_succ, List.setIfInBounds_toArray, List.set_cons_zero, List.set_cons_succ])
      clear cl
      refine takeSome (i := 6) (v := ?_) (by decide +kernel) rfl (by rfl) (by decide +kernel) (by decide +kernel) (fun _ _ _ h => h) (by assumption) ?_ ?_
      rotate_left
      focus (intro w0 hSw; (try dsimp only at hSw); go_simp; (try (with_reducible rfl)); done)
      (try simp only [Act.put, List.getElem_toArray, List.getElem_cons_zero, List.getElem_cons_succ, List.setIfInBounds_toArray, List.set_cons_zero, List.set_cons_succ])
      refine wpAnyH_ready (rs := [7]) (by decide +kernel) (by simp) ?_
      refine AllReadyH.cons rfl (fun K hK => ?_) AllReadyH.nil
      have hba := grew_alloc (World.grownBy.refl W1 (some b)) (Obj.cells #[.int .i64 0, .string ⟨#[]⟩, .slice none 0 0, .slice none 0 0] 25 (0, 0))
      have hbb := (Below.refl W1.heap.size W1).alloc (Nat.le_refl _) (Obj.cells #[.int .i64 0, .string ⟨#[]⟩, .slice none 0 0, .slice none 0 0] 25 (0, 0))
      have i2 := i1.keep hbn hba
      have g2 := g1.trans hba
      have r2 := r1.on hbb
      have hz := heap_alloc_new W1 (Obj.cells #[.int .i64 0, .string ⟨#[]⟩, .slice none 0 0, .slice none 0 0] 25 (0, 0))
      have hzb : b < W1.heap.size := r1.lt
      have hV := hV.keep (F' := F0) (fun g hg => ⟨hg, hbb.block g (hF g hg).2⟩)
      have hF := fun k hk => (⟨(hF k hk).1, Nat.lt_of_lt_of_le (hF k hk).2 hbb.size⟩ : Wd.heap.size ≤ k ∧ k < (W1.alloc (Obj.cells #[.int .i64 0, .string ⟨#[]⟩, .slice none 0 0, .slice none 0 0] 25 (0, 0))).heap.size)
      (try simp only [List.getElem_toArray, List.getElem_cons_zero, List.getElem_cons_succ])
      go_simp
      refine hK.out _ _ ?_ (fun hHeld => ?_)
      focus ((try dsimp only); exact ⟨blk_cell i2.box 0, blk_cell i2.boxa 0⟩; done)
      clear hK K
      (try simp only [Act.put, List.getElem_toArray, List.getElem_cons_zero, List.getElem_cons_succ, List.setIfInBounds_toArray, List.set_cons_zero, List.set_cons_succ])
      clear hba hbb r1
      generalize (World.alloc _ _) = W2 at i2 g2 r2 hz hV hF hHeld ⊢
      generalize W1.heap.size = gz at hz hzb ⊢
      refine wpAnyH_ready (rs := [8]) (by decide +kernel) (by simp) ?_
      refine AllReadyH.cons rfl (fun K hK => ?_) AllReadyH.nil
      refine step_append_row 4 72 25 23 iV zV Tryd.underlying23 hiV hzV hsV hbV hcV (by decide) i2.list (by have := g2.size; omega) zeroPV.cells rfl (by decide) gz 1 ?_ (by unfold maxLen; omega) (by omega) rfl _ _ rfl rfl rfl ?_
      · intro j u hu
        rw [blk_cell hz]
        match j, hu with
        | 0, hu => exact hu
        | 1, hu => exact hu
        | 2, hu => exact hu
        | 3, hu => exact hu
      rintro h0 c0 W9 hrow hg hh0
      have ap : Apd b n ar 6 d kv (.slice Al xs.length cl0) l F [] xs Wd W2 W9 F0 ⟨pk, pt, .slice A1 n1 c1, .slice A2 n2 c2⟩ x h0 c0 := ⟨i2, hnd, g2.size, hV, hF, hkl, hll, hrow, hg, hh0⟩
      have bx := ap.base
      obtain ⟨⟨z0, z1, z2, z3⟩, zf⟩ := ap.cells
      have hgb : W9.heap[n]? = _ := (hg.block n (blk_lt i2.box) (fun e => by have := i2.list.lt _ e.symm; omega)).trans i2.box
      have hgc : W9.heap[n + 1]? = _ := (hg.block (n + 1) (blk_lt i2.boxa) (fun e => by have := i2.list.lt _ e.symm; omega)).trans i2.boxa
      have hgv : W9.heap[n + 3]? = _ := (hg.block (n + 3) (blk_lt i2.val) (fun e => by have := i2.list.lt _ e.symm; omega)).trans i2.val
      have v3 : W9.cell? ⟨n + 3, 3, none⟩ = some (.slice Al xs.length cl0) := blk_cell hgv 3
      have vf := blk_frozen hgv 3
      refine hK.out _ _ ?_ (fun hHeld => ?_)
      focus ((try dsimp only); exact ⟨blk_cell hgb 0, blk_cell hgc 0⟩; done)
      clear hK K
      (try simp only [Act.put, List.getElem_toArray, List.getElem_cons_zero, List.getElem_cons_succ, List.setIfInBounds_toArray, List.set_cons_zero, List.set_cons_succ])
      have zf0 := zf (xs.length * 4)
      have zf1 := zf (xs.length * 4 + 1)
      have zf2 := zf (xs.length * 4 + 2)
      have zf3 := zf (xs.length * 4 + 3)
      clear zf
      refine takeSome (i := 9) (v := ?_) (by decide +kernel) rfl (by rfl) (by decide +kernel) (by decide +kernel) (fun _ _ _ h => h) (by assumption) ?_ ?_
      rotate_left
      focus (intro w0 hSw; (try dsimp only at hSw); go_simp; (try (with_reducible rfl)); done)
      (try simp only [Act.put, List.getElem_toArray, List.getElem_cons_zero, List.getElem_cons_succ, List.setIfInBounds_toArray, List.set_cons_zero, List.set_cons_succ])
      refine takeSome (i := 11) (v := ?_) (by decide +kernel) rfl (by rfl) (by decide +kernel) (by decide +kernel) (fun _ _ _ h => h) (by assumption) ?_ ?_
      rotate_left
      focus (intro w0 hSw; (try dsimp only at hSw); go_simp; (try (with_reducible rfl)); done)
      (try simp only [Act.put, List.getElem_toArray, List.getElem_cons_zero, List.getElem_cons_succ, List.setIfInBounds_toArray, List.set_cons_zero, List.set_cons_succ])
      refine wpAnyH_ready (rs := [10, 12]) (by decide +kernel) (by simp) ?_
      refine AllReadyH.cons rfl (fun K hK => ?_) (AllReadyH.cons rfl (fun K hK => ?_) AllReadyH.nil)
      · have e5 : n + 3 ≠ h0 := by omega
        have e6 : n ≠ h0 := by omega
        have e7 : n + 1 ≠ h0 := by omega
        have y3 : (put4 W9 h0 (xs.length * 4) ⟨pk, pt, .slice A1 n1 c1, .slice A2 n2 c2⟩).cell? ⟨n + 3, 3, none⟩ = some (.slice Al xs.length cl0) := (cell_keep (put4_far W9 _ e5) 3).trans v3
        have yf : (put4 W9 h0 (xs.length * 4) ⟨pk, pt, .slice A1 n1 c1, .slice A2 n2 c2⟩).frozen? ⟨n + 3, 3, none⟩ = false := blk_frozen ((put4_far W9 _ e5).trans hgv) 3
        have yb := (put4_far W9 (i := xs.length * 4) ⟨pk, pt, .slice A1 n1 c1, .slice A2 n2 c2⟩ e6).trans hgb
        have yc := (put4_far W9 (i := xs.length * 4) ⟨pk, pt, .slice A1 n1 c1, .slice A2 n2 c2⟩ e7).trans hgc
        (try simp only [List.getElem_toArray, List.getElem_cons_zero, List.getElem_cons_succ])
        go_simp
        refine hK.out _ _ ?_ (fun hHeld => ?_)
        focus ((try dsimp only); exact ⟨blk_cell yb 0, blk_cell yc 0⟩; done)
        clear hK K
        (try simp only [Act.put, List.getElem_toArray, List.getElem_cons_zero, List.getElem_cons_succ, List.setIfInBounds_toArray, List.set_cons_zero, List.set_cons_succ])
        refine wpAnyH_ready (rs := [12]) (by decide +kernel) (by simp) ?_
        refine AllReadyH.cons rfl (fun K hK => ?_) AllReadyH.nil
        have ab := ap.first
        simp only [put4] at ab y3 yf
        (try simp only [List.getElem_toArray, List.getElem_cons_zero, List.getElem_cons_succ])
        go_simp
        refine hK.out _ _ ?_ (fun hHeld => ?_)
        focus ((try dsimp only); exact ⟨blk_cell ((Below.heap_setCell _ _ _ n (by show n ≠ n + 3; omega)).trans yb) 0, blk_cell ((Below.heap_setCell _ _ _ (n + 1) (by show n + 1 ≠ n + 3; omega)).trans yc) 0⟩; done)
        clear hK K
        (try simp only [Act.put, List.getElem_toArray, List.getElem_cons_zero, List.getElem_cons_succ, List.setIfInBounds_toArray, List.set_cons_zero, List.set_cons_succ])
        refine wpAnyH_done (by decide +kernel) ?_ _
        go_wp2_with fail
        refine bodyPost_end (results_none rfl _ _ _) rfl ?_
        refine ⟨HFR.out.trans ((Fr.of g2 (by omega)).trans (Fr.below ab.2)), .inl ⟨([], x, tk2), ?_, rfl, r2.under ab.2 hbn HA.out, ?_⟩⟩
        · unfold listPart; rw [hr]
        · exact ab.1
      · have e5 : n + 3 ≠ h0 := by omega
        have e6 : n ≠ h0 := by omega
        have e7 : n + 1 ≠ h0 := by omega
        have yb := (Below.heap_setCell W9 ⟨n + 3, 3, none⟩ (.slice (some ⟨h0, 0, none⟩) (xs.length + 1) c0) n (by show n ≠ n + 3; omega)).trans hgb
        have yc := (Below.heap_setCell W9 ⟨n + 3, 3, none⟩ (.slice (some ⟨h0, 0, none⟩) (xs.length + 1) c0) (n + 1) (by show n + 1 ≠ n + 3; omega)).trans hgc
        (try simp only [List.getElem_toArray, List.getElem_cons_zero, List.getElem_cons_succ])
        go_simp
        refine hK.out _ _ ?_ (fun hHeld => ?_)
        focus ((try dsimp only); exact ⟨blk_cell yb 0, blk_cell yc 0⟩; done)
        clear hK K
        (try simp only [Act.put, List.getElem_toArray, List.getElem_cons_zero, List.getElem_cons_succ, List.setIfInBounds_toArray, List.set_cons_zero, List.set_cons_succ])
        refine wpAnyH_ready (rs := [10]) (by decide +kernel) (by simp) ?_
        refine AllReadyH.cons rfl (fun K hK => ?_) AllReadyH.nil
        have ab := ap.second
        have q0 := (cell_keep (Below.heap_setCell W9 ⟨n + 3, 3, none⟩ (.slice (some ⟨h0, 0, none⟩) (xs.length + 1) c0) h0 (by show h0 ≠ n + 3; omega)) (xs.length * 4)).trans z0
        have q1 := (cell_keep (Below.heap_setCell W9 ⟨n + 3, 3, none⟩ (.slice (some ⟨h0, 0, none⟩) (xs.length + 1) c0) h0 (by show h0 ≠ n + 3; omega)) (xs.length * 4 + 1)).trans z1
        have q2 := (cell_keep (Below.heap_setCell W9 ⟨n + 3, 3, none⟩ (.slice (some ⟨h0, 0, none⟩) (xs.length + 1) c0) h0 (by show h0 ≠ n + 3; omega)) (xs.length * 4 + 2)).trans z2
        have q3 := (cell_keep (Below.heap_setCell W9 ⟨n + 3, 3, none⟩ (.slice (some ⟨h0, 0, none⟩) (xs.length + 1) c0) h0 (by show h0 ≠ n + 3; omega)) (xs.length * 4 + 3)).trans z3
        have qf : ∀ i, (W9.setCell ⟨n + 3, 3, none⟩ (.slice (some ⟨h0, 0, none⟩) (xs.length + 1) c0)).frozen? ⟨h0, i, none⟩ = false := fun i => (World.frozen?_of_block (a := ⟨h0, i, none⟩) (Below.heap_setCell W9 ⟨n + 3, 3, none⟩ (.slice (some ⟨h0, 0, none⟩) (xs.length + 1) c0) h0 (by show h0 ≠ n + 3; omega))).trans (ap.cells.2 i)
        have qf0 := qf (xs.length * 4)
        have qf1 := qf (xs.length * 4 + 1)
        have qf2 := qf (xs.length * 4 + 2)
        have qf3 := qf (xs.length * 4 + 3)
        clear qf
        (try simp only [List.getElem_toArray, List.getElem_cons_zero, List.getElem_cons_succ])
        go_simp
        refine hK.out _ _ ?_ (fun hHeld => ?_)
        focus ((try dsimp only); exact ⟨blk_cell ((put4_far _ (i := xs.length * 4) ⟨pk, pt, .slice A1 n1 c1, .slice A2 n2 c2⟩ e6).trans yb) 0, blk_cell ((put4_far _ (i := xs.length * 4) ⟨pk, pt, .slice A1 n1 c1, .slice A2 n2 c2⟩ e7).trans yc) 0⟩; done)
        clear hK K
        (try simp only [Act.put, List.getElem_toArray, List.getElem_cons_zero, List.getElem_cons_succ, List.setIfInBounds_toArray, List.set_cons_zero, List.set_cons_succ])
        refine wpAnyH_done (by decide +kernel) ?_ _
        simp only [put4] at ab
        go_wp2_with fail
        refine bodyPost_end (results_none rfl _ _ _) rfl ?_
        refine ⟨HFR.out.trans ((Fr.of g2 (by omega)).trans (Fr.below ab.2)), .inl ⟨([], x, tk2), ?_, rfl, r2.under ab.2 hbn HA.out, ?_⟩⟩
        · unfold listPart; rw [hr]
        · exact ab.1
    · have hba := grew_alloc (World.grownBy.refl W1 (some b)) (Obj.cells #[.int .i64 0, .string ⟨#[]⟩, .slice none 0 0, .slice none 0 0] 25 (0, 0))
      have hbb := (Below.refl W1.heap.size W1).alloc (Nat.le_refl _) (Obj.cells #[.int .i64 0, .string ⟨#[]⟩, .slice none 0 0, .slice none 0 0] 25 (0, 0))
      have i2 := i1.keep hbn hba
      have g2 := g1.trans hba
      have r2 := r1.on hbb
      have hz := heap_alloc_new W1 (Obj.cells #[.int .i64 0, .string ⟨#[]⟩, .slice none 0 0, .slice none 0 0] 25 (0, 0))
      have hzb : b < W1.heap.size := r1.lt
      have hV := hV.keep (F' := F0) (fun g hg => ⟨hg, hbb.block g (hF g hg).2⟩)
      have hF := fun k hk => (⟨(hF k hk).1, Nat.lt_of_lt_of_le (hF k hk).2 hbb.size⟩ : Wd.heap.size ≤ k ∧ k < (W1.alloc (Obj.cells #[.int .i64 0, .string ⟨#[]⟩, .slice none 0 0, .slice none 0 0] 25 (0, 0))).heap.size)
      (try simp only [List.getElem_toArray, List.getElem_cons_zero, List.getElem_cons_succ])
      go_simp
      refine hK.out _ _ ?_ (fun hHeld => ?_)
      focus ((try dsimp only); exact ⟨blk_cell i2.box 0, blk_cell i2.boxa 0⟩; done)
      clear hK K
      (try simp only [Act.put, List.getElem_toArray, List.getElem_cons_zero, List.getElem_cons_succ, List.setIfInBounds_toArray, List.set_cons_zero, List.set_cons_succ])
      clear hba hbb r1
      generalize (World.alloc _ _) = W2 at i2 g2 r2 hz hV hF hHeld ⊢
      generalize W1.heap.size = gz at hz hzb ⊢
      refine wpAnyH_ready (rs := [1]) (by decide +kernel) (by simp) ?_
      refine AllReadyH.cons rfl (fun K hK => ?_) AllReadyH.nil
      have cl : W2.cell? ⟨n + 3, 3, none⟩ = some (.slice Al xs.length cl0) := blk_cell i2.val 3
      (try simp only [List.getElem_toArray, List.getElem_cons_zero, List.getElem_cons_succ])
      go_simp
      refine hK.out _ _ ?_ (fun hHeld => ?_)
      focus ((try dsimp only); exact ⟨blk_cell i2.box 0, blk_cell i2.boxa 0⟩; done)
      clear hK K
      (try simp only [Act.put, List.getElem_toArray, List.getElem_cons_zero, List.getElem_cons_succ, List.setIfInBounds_toArray, List.set_cons_zero, List.set_cons_succ])
      clear cl
      refine takeSome (i := 6) (v := ?_) (by decide +kernel) rfl (by rfl) (by decide +kernel) (by decide +kernel) (fun _ _ _ h => h) (by assumption) ?_ ?_
      rotate_left
      focus (intro w0 hSw; (try dsimp only at hSw); go_simp; (try (with_reducible rfl)); done)
      (try simp only [Act.put, List.getElem_toArray, List.getElem_cons_zero, List.getElem_cons_succ, List.setIfInBounds_toArray, List.set_cons_zero, List.set_cons_succ])
      refine wpAnyH_ready (rs := [8]) (by decide +kernel) (by simp) ?_
      refine AllReadyH.cons rfl (fun K hK => ?_) AllReadyH.nil
      refine step_append_row 4 72 25 23 iV zV Tryd.underlying23 hiV hzV hsV hbV hcV (by decide) i2.list (by have := g2.size; omega) zeroPV.cells rfl (by decide) gz 1 ?_ (by unfold maxLen; omega) (by omega) rfl _ _ rfl rfl rfl ?_
      · intro j u hu
        rw [blk_cell hz]
        match j, hu with
        | 0, hu => exact hu
        | 1, hu => exact hu
        | 2, hu => exact hu
        | 3, hu => exact hu
      rintro h0 c0 W9 hrow hg hh0
      have ap : Apd b n ar 6 d kv (.slice Al xs.length cl0) l F [] xs Wd W2 W9 F0 ⟨pk, pt, .slice A1 n1 c1, .slice A2 n2 c2⟩ x h0 c0 := ⟨i2, hnd, g2.size, hV, hF, hkl, hll, hrow, hg, hh0⟩
      have bx := ap.base
      obtain ⟨⟨z0, z1, z2, z3⟩, zf⟩ := ap.cells
      have hgb : W9.heap[n]? = _ := (hg.block n (blk_lt i2.box) (fun e => by have := i2.list.lt _ e.symm; omega)).trans i2.box
      have hgc : W9.heap[n + 1]? = _ := (hg.block (n + 1) (blk_lt i2.boxa) (fun e => by have := i2.list.lt _ e.symm; omega)).trans i2.boxa
      have hgv : W9.heap[n + 3]? = _ := (hg.block (n + 3) (blk_lt i2.val) (fun e => by have := i2.list.lt _ e.symm; omega)).trans i2.val
      have v3 : W9.cell? ⟨n + 3, 3, none⟩ = some (.slice Al xs.length cl0) := blk_cell hgv 3
      have vf := blk_frozen hgv 3
      refine hK.out _ _ ?_ (fun hHeld => ?_)
      focus ((try dsimp only); exact ⟨blk_cell hgb 0, blk_cell hgc 0⟩; done)
      clear hK K
      (try simp only [Act.put, List.getElem_toArray, List.getElem_cons_zero, List.getElem_cons_succ, List.setIfInBounds_toArray, List.set_cons_zero, List.set_cons_succ])
      have zf0 := zf (xs.length * 4)
      have zf1 := zf (xs.length * 4 + 1)
      have zf2 := zf (xs.length * 4 + 2)
      have zf3 := zf (xs.length * 4 + 3)
      clear zf
      refine takeSome (i := 9) (v := ?_) (by decide +kernel) rfl (by rfl) (by decide +kernel) (by decide +kernel) (fun _ _ _ h => h) (by assumption) ?_ ?_
      rotate_left
      focus (intro w0 hSw; (try dsimp only at hSw); go_simp; (try (with_reducible rfl)); done)
      (try simp only [Act.put, List.getElem_toArray, List.getElem_cons_zero, List.getElem_cons_succ, List.setIfInBounds_toArray, List.set_cons_zero, List.set_cons_succ])
      refine takeSome (i := 11) (v := ?_) (by decide +kernel) rfl (by rfl) (by decide +kernel) (by decide +kernel) (fun _ _ _ h => h) (by assumption) ?_ ?_
      rotate_left
      focus (intro w0 hSw; (try dsimp only at hSw); go_simp; (try (with_reducible rfl)); done)
      (try simp only [Act.put, List.getElem_toArray, List.getElem_cons_zero, List.getElem_cons_succ, List.setIfInBounds_toArray, List.set_cons_zero, List.set_cons_succ])
      refine wpAnyH_ready (rs := [10, 12]) (by decide +kernel) (by simp) ?_
      refine AllReadyH.cons rfl (fun K hK => ?_) (AllReadyH.cons rfl (fun K hK => ?_) AllReadyH.nil)
      · have e5 : n + 3 ≠ h0 := by omega
        have e6 : n ≠ h0 := by omega
        have e7 : n + 1 ≠ h0 := by omega
        have y3 : (put4 W9 h0 (xs.length * 4) ⟨pk, pt, .slice A1 n1 c1, .slice A2 n2 c2⟩).cell? ⟨n + 3, 3, none⟩ = some (.slice Al xs.length cl0) := (cell_keep (put4_far W9 _ e5) 3).trans v3
        have yf : (put4 W9 h0 (xs.length * 4) ⟨pk, pt, .slice A1 n1 c1, .slice A2 n2 c2⟩).frozen? ⟨n + 3, 3, none⟩ = false := blk_frozen ((put4_far W9 _ e5).trans hgv) 3
        have yb := (put4_far W9 (i := xs.length * 4) ⟨pk, pt, .slice A1 n1 c1, .slice A2 n2 c2⟩ e6).trans hgb
        have yc := (put4_far W9 (i := xs.length * 4) ⟨pk, pt, .slice A1 n1 c1, .slice A2 n2 c2⟩ e7).trans hgc
        (try simp only [List.getElem_toArray, List.getElem_cons_zero, List.getElem_cons_succ])
        go_simp
        refine hK.out _ _ ?_ (fun hHeld => ?_)
        focus ((try dsimp only); exact ⟨blk_cell yb 0, blk_cell yc 0⟩; done)
        clear hK K
        (try simp only [Act.put, List.getElem_toArray, List.getElem_cons_zero, List.getElem_cons_succ, List.setIfInBounds_toArray, List.set_cons_zero, List.set_cons_succ])
        refine wpAnyH_ready (rs := [12]) (by decide +kernel) (by simp) ?_
        refine AllReadyH.cons rfl (fun K hK => ?_) AllReadyH.nil
        have ab := ap.first
        simp only [put4] at ab y3 yf
        (try simp only [List.getElem_toArray, List.getElem_cons_zero, List.getElem_cons_succ])
        go_simp
        refine hK.out _ _ ?_ (fun hHeld => ?_)
        focus ((try dsimp only); exact ⟨blk_cell ((Below.heap_setCell _ _ _ n (by show n ≠ n + 3; omega)).trans yb) 0, blk_cell ((Below.heap_setCell _ _ _ (n + 1) (by show n + 1 ≠ n + 3; omega)).trans yc) 0⟩; done)
        clear hK K
        (try simp only [Act.put, List.getElem_toArray, List.getElem_cons_zero, List.getElem_cons_succ, List.setIfInBounds_toArray, List.set_cons_zero, List.set_cons_succ])
        refine wpAnyH_done (by decide +kernel) ?_ _
        go_wp2_with fail
        refine bodyPost_end (results_none rfl _ _ _) rfl ?_
        refine ⟨HFR.out.trans ((Fr.of g2 (by omega)).trans (Fr.below ab.2)), .inl ⟨([], x, tk2), ?_, rfl, r2.under ab.2 hbn HA.out, ?_⟩⟩
        · unfold listPart; rw [hr]
        · exact ab.1
      · have e5 : n + 3 ≠ h0 := by omega
        have e6 : n ≠ h0 := by omega
        have e7 : n + 1 ≠ h0 := by omega
        have yb := (Below.heap_setCell W9 ⟨n + 3, 3, none⟩ (.slice (some ⟨h0, 0, none⟩) (xs.length + 1) c0) n (by show n ≠ n + 3; omega)).trans hgb
        have yc := (Below.heap_setCell W9 ⟨n + 3, 3, none⟩ (.slice (some ⟨h0, 0, none⟩) (xs.length + 1) c0) (n + 1) (by show n + 1 ≠ n + 3; omega)).trans hgc
        (try simp only [List.getElem_toArray, List.getElem_cons_zero, List.getElem_cons_succ])
        go_simp
        refine hK.out _ _ ?_ (fun hHeld => ?_)
        focus ((try dsimp only); exact ⟨blk_cell yb 0, blk_cell yc 0⟩; done)
        clear hK K
        (try simp only [Act.put, List.getElem_toArray, List.getElem_cons_zero, List.getElem_cons_succ, List.setIfInBounds_toArray, List.set_cons_zero, List.set_cons_succ])
        refine wpAnyH_ready (rs := [10]) (by decide +kernel) (by simp) ?_
        refine AllReadyH.cons rfl (fun K hK => ?_) AllReadyH.nil
        have ab := ap.second
        have q0 := (cell_keep (Below.heap_setCell W9 ⟨n + 3, 3, none⟩ (.slice (some ⟨h0, 0, none⟩) (xs.length + 1) c0) h0 (by show h0 ≠ n + 3; omega)) (xs.length * 4)).trans z0
        have q1 := (cell_keep (Below.heap_setCell W9 ⟨n + 3, 3, none⟩ (.slice (some ⟨h0, 0, none⟩) (xs.length + 1) c0) h0 (by show h0 ≠ n + 3; omega)) (xs.length * 4 + 1)).trans z1
        have q2 := (cell_keep (Below.heap_setCell W9 ⟨n + 3, 3, none⟩ (.slice (some ⟨h0, 0, none⟩) (xs.length + 1) c0) h0 (by show h0 ≠ n + 3; omega)) (xs.length * 4 + 2)).trans z2
        have q3 := (cell_keep (Below.heap_setCell W9 ⟨n + 3, 3, none⟩ (.slice (some ⟨h0, 0, none⟩) (xs.length + 1) c0) h0 (by show h0 ≠ n + 3; omega)) (xs.length * 4 + 3)).trans z3
        have qf : ∀ i, (W9.setCell ⟨n + 3, 3, none⟩ (.slice (some ⟨h0, 0, none⟩) (xs.length + 1) c0)).frozen? ⟨h0, i, none⟩ = false := fun i => (World.frozen?_of_block (a := ⟨h0, i, none⟩) (Below.heap_setCell W9 ⟨n + 3, 3, none⟩ (.slice (some ⟨h0, 0, none⟩) (xs.length + 1) c0) h0 (by show h0 ≠ n + 3; omega))).trans (ap.cells.2 i)
        have qf0 := qf (xs.length * 4)
        have qf1 := qf (xs.length * 4 + 1)
        have qf2 := qf (xs.length * 4 + 2)
        have qf3 := qf (xs.length * 4 + 3)
        clear qf
        (try simp only [List.getElem_toArray, List.getElem_cons_zero, List.getElem_cons_succ])
        go_simp
        refine hK.out _ _ ?_ (fun hHeld => ?_)
        focus ((try dsimp only); exact ⟨blk_cell ((put4_far _ (i := xs.length * 4) ⟨pk, pt, .slice A1 n1 c1, .slice A2 n2 c2⟩ e6).trans yb) 0, blk_cell ((put4_far _ (i := xs.length * 4) ⟨pk, pt, .slice A1 n1 c1, .slice A2 n2 c2⟩ e7).trans yc) 0⟩; done)
        clear hK K
        (try simp only [Act.put, List.getElem_toArray, List.getElem_cons_zero, List.getElem_cons_succ, List.setIfInBounds_toArray, List.set_cons_zero, List.set_cons_succ])
        refine wpAnyH_done (by decide +kernel) ?_ _
        simp only [put4] at ab
        go_wp2_with fail
        refine bodyPost_end (results_none rfl _ _ _) rfl ?_
        refine ⟨HFR.out.trans ((Fr.of g2 (by omega)).trans (Fr.below ab.2)), .inl ⟨([], x, tk2), ?_, rfl, r2.under ab.2 hbn HA.out, ?_⟩⟩
        · unfold listPart; rw [hr]
        · exact ab.1
  · have hba := grew_alloc (World.grownBy.refl W0 (some b)) (Obj.cells #[.int .i64 0, .string ⟨#[]⟩, .slice none 0 0, .slice none 0 0] 25 (0, 0))
    have hbb := (Below.refl W0.heap.size W0).alloc (Nat.le_refl _) (Obj.cells #[.int .i64 0, .string ⟨#[]⟩, .slice none 0 0, .slice none 0 0] 25 (0, 0))
    have i1 := i0.keep hbn hba
    have g1 := g0.trans hba
    have r1 := r0.on hbb
    have hz := heap_alloc_new W0 (Obj.cells #[.int .i64 0, .string ⟨#[]⟩, .slice none 0 0, .slice none 0 0] 25 (0, 0))
    have hzb : b < W0.heap.size := r0.lt
    (try simp only [List.getElem_toArray, List.getElem_cons_zero, List.getElem_cons_succ])
    go_simp
    refine hK.out _ _ ?_ (fun hHeld => ?_)
    focus ((try dsimp only); exact ⟨blk_cell i1.box 0, blk_cell i1.boxa 0⟩; done)
    clear hK K
    (try simp only [Act.put, List.getElem_toArray, List.getElem_cons_zero, List.getElem_cons_succ, List.setIfInBounds_toArray, List.set_cons_zero, List.set_cons_succ])
    clear hba hbb r0
    generalize (World.alloc _ _) = W1 at i1 g1 r1 hz hHeld ⊢
    generalize W0.heap.size = gz at hz hzb ⊢
    refine wpAnyH_ready (rs := [1, 5]) (by decide +kernel) (by simp) ?_
    refine AllReadyH.cons rfl (fun K hK => ?_) (AllReadyH.cons rfl (fun K hK => ?_) AllReadyH.nil)
    · have cl : W1.cell? ⟨n + 3, 3, none⟩ = some (.slice Al xs.length cl0) := blk_cell i1.val 3
      (try simp only [List.getElem_toArray, List.getElem_cons_zero, List.getElem_cons_succ])
      go_simp
      refine hK.out _ _ ?_ (fun hHeld => ?_)
      focus ((try dsimp only); exact ⟨blk_cell i1.box 0, blk_cell i1.boxa 0⟩; done)
      clear hK K
      (try simp only [Act.put, List.getElem_toArray, List.getElem_cons_zero, List.getElem_cons_succ, List.setIfInBounds_toArray, List.set_cons_zero, List.set_cons_succ])
      clear cl
      refine takeSome (i := 6) (v := ?_) (by decide +kernel) rfl (by rfl) (by decide +kernel) (by decide +kernel) (fun _ _ _ h => h) (by assumption) ?_ ?_
      rotate_left
      focus (intro w0 hSw; (try dsimp only at hSw); go_simp; (try (with_reducible rfl)); done)
      (try simp only [Act.put, List.getElem_toArray, List.getElem_cons_zero, List.getElem_cons_succ, List.setIfInBounds_toArray, List.set_cons_zero, List.set_cons_succ])
      refine wpAnyH_ready (rs := [5]) (by decide +kernel) (by simp) ?_
      refine AllReadyH.cons rfl (fun K hK => ?_) AllReadyH.nil
      (try simp only [List.getElem_toArray, List.getElem_cons_zero, List.getElem_cons_succ])
      go_simp
      go_at_call 23
      refine (HV.out _ _ r1 hT1).mono ?_
      rintro e' W2 ⟨hG, ⟨⟨pk, pt, pkv, plv⟩, x, tk2, F0, hr, rfl, hR2, hV, hF⟩ | ⟨a', e2, hr, rfl⟩⟩
      case inr =>
        refine ⟨rfl, ⟨HFR.out.trans (Fr.of (g1.trans hG) (by omega)), .inr ⟨a', e2, ?_, rfl⟩⟩⟩
        exact (by unfold listPart; rw [hr])
      obtain ⟨A1, n1, c1, A2, n2, c2, rfl, rfl⟩ := hV.slices
      have i2 := i1.keep hbn hG
      have g2 := g1.trans hG
      have hF := fun k hk => (⟨Nat.le_trans g1.size (hF k hk).1, (hF k hk).2⟩ : Wd.heap.size ≤ k ∧ k < W2.heap.size)
      simp only [PV.val]
      have hz := (hG.block gz (blk_lt hz) (by simp; omega)).trans hz
      refine hK.out _ _ ?_ (fun hHeld => ?_)
      focus ((try dsimp only); exact ⟨blk_cell i2.box 0, blk_cell i2.boxa 0⟩; done)
      clear hK K
      (try simp only [Act.put, List.getElem_toArray, List.getElem_cons_zero, List.getElem_cons_succ, List.setIfInBounds_toArray, List.set_cons_zero, List.set_cons_succ])
      clear hG r1
      have r2 := hR2
      clear hR2
      refine wpAnyH_ready (rs := [8]) (by decide +kernel) (by simp) ?_
      refine AllReadyH.cons rfl (fun K hK => ?_) AllReadyH.nil
      refine step_append_row 4 72 25 23 iV zV Tryd.underlying23 hiV hzV hsV hbV hcV (by decide) i2.list (by have := g2.size; omega) zeroPV.cells rfl (by decide) gz 1 ?_ (by unfold maxLen; omega) (by omega) rfl _ _ rfl rfl rfl ?_
      · intro j u hu
        rw [blk_cell hz]
        match j, hu with
        | 0, hu => exact hu
        | 1, hu => exact hu
        | 2, hu => exact hu
        | 3, hu => exact hu
      rintro h0 c0 W9 hrow hg hh0
      have ap : Apd b n ar 6 d kv (.slice Al xs.length cl0) l F [] xs Wd W2 W9 F0 ⟨pk, pt, .slice A1 n1 c1, .slice A2 n2 c2⟩ x h0 c0 := ⟨i2, hnd, g2.size, hV, hF, hkl, hll, hrow, hg, hh0⟩
      have bx := ap.base
      obtain ⟨⟨z0, z1, z2, z3⟩, zf⟩ := ap.cells
      have hgb : W9.heap[n]? = _ := (hg.block n (blk_lt i2.box) (fun e => by have := i2.list.lt _ e.symm; omega)).trans i2.box
      have hgc : W9.heap[n + 1]? = _ := (hg.block (n + 1) (blk_lt i2.boxa) (fun e => by have := i2.list.lt _ e.symm; omega)).trans i2.boxa
      have hgv : W9.heap[n + 3]? = _ := (hg.block (n + 3) (blk_lt i2.val) (fun e => by have := i2.list.lt _ e.symm; omega)).trans i2.val
      have v3 : W9.cell? ⟨n + 3, 3, none⟩ = some (.slice Al xs.length cl0) := blk_cell hgv 3
      have vf := blk_frozen hgv 3
      refine hK.out _ _ ?_ (fun hHeld => ?_)
      focus ((try dsimp only); exact ⟨blk_cell hgb 0, blk_cell hgc 0⟩; done)
      clear hK K
      (try simp only [Act.put, List.getElem_toArray, List.getElem_cons_zero, List.getElem_cons_succ, List.setIfInBounds_toArray, List.set_cons_zero, List.set_cons_succ])
      have zf0 := zf (xs.length * 4)
      have zf1 := zf (xs.length * 4 + 1)
      have zf2 := zf (xs.length * 4 + 2)
      have zf3 := zf (xs.length * 4 + 3)
      clear zf
      refine takeSome (i := 9) (v := ?_) (by decide +kernel) rfl (by rfl) (by decide +kernel) (by decide +kernel) (fun _ _ _ h => h) (by assumption) ?_ ?_
      rotate_left
      focus (intro w0 hSw; (try dsimp only at hSw); go_simp; (try (with_reducible rfl)); done)
      (try simp only [Act.put, List.getElem_toArray, List.getElem_cons_zero, List.getElem_cons_succ, List.setIfInBounds_toArray, List.set_cons_zero, List.set_cons_succ])
      refine takeSome (i := 11) (v := ?_) (by decide +kernel) rfl (by rfl) (by decide +kernel) (by decide +kernel) (fun _ _ _ h => h) (by assumption) ?_ ?_
      rotate_left
      focus (intro w0 hSw; (try dsimp only at hSw); go_simp; (try (with_reducible rfl)); done)
      (try simp only [Act.put, List.getElem_toArray, List.getElem_cons_zero, List.getElem_cons_succ, List.setIfInBounds_toArray, List.set_cons_zero, List.set_cons_succ])
      refine wpAnyH_ready (rs := [10, 12]) (by decide +kernel) (by simp) ?_
      refine AllReadyH.cons rfl (fun K hK => ?_) (AllReadyH.cons rfl (fun K hK => ?_) AllReadyH.nil)
      · have e5 : n + 3 ≠ h0 := by omega
        have e6 : n ≠ h0 := by omega
        have e7 : n + 1 ≠ h0 := by omega
        have y3 : (put4 W9 h0 (xs.length * 4) ⟨pk, pt, .slice A1 n1 c1, .slice A2 n2 c2⟩).cell? ⟨n + 3, 3, none⟩ = some (.slice Al xs.length cl0) := (cell_keep (put4_far W9 _ e5) 3).trans v3
        have yf : (put4 W9 h0 (xs.length * 4) ⟨pk, pt, .slice A1 n1 c1, .slice A2 n2 c2⟩).frozen? ⟨n + 3, 3, none⟩ = false := blk_frozen ((put4_far W9 _ e5).trans hgv) 3
        have yb := (put4_far W9 (i := xs.length * 4) ⟨pk, pt, .slice A1 n1 c1, .slice A2 n2 c2⟩ e6).trans hgb
        have yc := (put4_far W9 (i := xs.length * 4) ⟨pk, pt, .slice A1 n1 c1, .slice A2 n2 c2⟩ e7).trans hgc
        (try simp only [List.getElem_toArray, List.getElem_cons_zero, List.getElem_cons_succ])
        go_simp
        refine hK.out _ _ ?_ (fun hHeld => ?_)
        focus ((try dsimp only); exact ⟨blk_cell yb 0, blk_cell yc 0⟩; done)
        clear hK K
        (try simp only [Act.put, List.getElem_toArray, List.getElem_cons_zero, List.getElem_cons_succ, List.setIfInBounds_toArray, List.set_cons_zero, List.set_cons_succ])
        refine wpAnyH_ready (rs := [12]) (by decide +kernel) (by simp) ?_
        refine AllReadyH.cons rfl (fun K hK => ?_) AllReadyH.nil
        have ab := ap.first
        simp only [put4] at ab y3 yf
        (try simp only [List.getElem_toArray, List.getElem_cons_zero, List.getElem_cons_succ])
        go_simp
        refine hK.out _ _ ?_ (fun hHeld => ?_)
        focus ((try dsimp only); exact ⟨blk_cell ((Below.heap_setCell _ _ _ n (by show n ≠ n + 3; omega)).trans yb) 0, blk_cell ((Below.heap_setCell _ _ _ (n + 1) (by show n + 1 ≠ n + 3; omega)).trans yc) 0⟩; done)
        clear hK K
        (try simp only [Act.put, List.getElem_toArray, List.getElem_cons_zero, List.getElem_cons_succ, List.setIfInBounds_toArray, List.set_cons_zero, List.set_cons_succ])
        refine wpAnyH_done (by decide +kernel) ?_ _
        go_wp2_with fail
        refine bodyPost_end (results_none rfl _ _ _) rfl ?_
        refine ⟨HFR.out.trans ((Fr.of g2 (by omega)).trans (Fr.below ab.2)), .inl ⟨([], x, tk2), ?_, rfl, r2.under ab.2 hbn HA.out, ?_⟩⟩
        · unfold listPart; rw [hr]
        · exact ab.1
      · have e5 : n + 3 ≠ h0 := by omega
        have e6 : n ≠ h0 := by omega
        have e7 : n + 1 ≠ h0 := by omega
        have yb := (Below.heap_setCell W9 ⟨n + 3, 3, none⟩ (.slice (some ⟨h0, 0, none⟩) (xs.length + 1) c0) n (by show n ≠ n + 3; omega)).trans hgb
        have yc := (Below.heap_setCell W9 ⟨n + 3, 3, none⟩ (.slice (some ⟨h0, 0, none⟩) (xs.length + 1) c0) (n + 1) (by show n + 1 ≠ n + 3; omega)).trans hgc
        (try simp only [List.getElem_toArray, List.getElem_cons_zero, List.getElem_cons_succ])
        go_simp
        refine hK.out _ _ ?_ (fun hHeld => ?_)
        focus ((try dsimp only); exact ⟨blk_cell yb 0, blk_cell yc 0⟩; done)
        clear hK K
        (try simp only [Act.put, List.getElem_toArray, List.getElem_cons_zero, List.getElem_cons_succ, List.setIfInBounds_toArray, List.set_cons_zero, List.set_cons_succ])
        refine wpAnyH_ready (rs := [10]) (by decide +kernel) (by simp) ?_
        refine AllReadyH.cons rfl (fun K hK => ?_) AllReadyH.nil
        have ab := ap.second
        have q0 := (cell_keep (Below.heap_setCell W9 ⟨n + 3, 3, none⟩ (.slice (some ⟨h0, 0, none⟩) (xs.length + 1) c0) h0 (by show h0 ≠ n + 3; omega)) (xs.length * 4)).trans z0
        have q1 := (cell_keep (Below.heap_setCell W9 ⟨n + 3, 3, none⟩ (.slice (some ⟨h0, 0, none⟩) (xs.length + 1) c0) h0 (by show h0 ≠ n + 3; omega)) (xs.length * 4 + 1)).trans z1
        have q2 := (cell_keep (Below.heap_setCell W9 ⟨n + 3, 3, none⟩ (.slice (some ⟨h0, 0, none⟩) (xs.length + 1) c0) h0 (by show h0 ≠ n + 3; omega)) (xs.length * 4 + 2)).trans z2
        have q3 := (cell_keep (Below.heap_setCell W9 ⟨n + 3, 3, none⟩ (.slice (some ⟨h0, 0, none⟩) (xs.length + 1) c0) h0 (by show h0 ≠ n + 3; omega)) (xs.length * 4 + 3)).trans z3
        have qf : ∀ i, (W9.setCell ⟨n + 3, 3, none⟩ (.slice (some ⟨h0, 0, none⟩) (xs.length + 1) c0)).frozen? ⟨h0, i, none⟩ = false := fun i => (World.frozen?_of_block (a := ⟨h0, i, none⟩) (Below.heap_setCell W9 ⟨n + 3, 3, none⟩ (.slice (some ⟨h0, 0, none⟩) (xs.length + 1) c0) h0 (by show h0 ≠ n + 3; omega))).trans (ap.cells.2 i)
        have qf0 := qf (xs.length * 4)
        have qf1 := qf (xs.length * 4 + 1)
        have qf2 := qf (xs.length * 4 + 2)
        have qf3 := qf (xs.length * 4 + 3)
        clear qf
        (try simp only [List.getElem_toArray, List.getElem_cons_zero, List.getElem_cons_succ])
        go_simp
        refine hK.out _ _ ?_ (fun hHeld => ?_)
        focus ((try dsimp only); exact ⟨blk_cell ((put4_far _ (i := xs.length * 4) ⟨pk, pt, .slice A1 n1 c1, .slice A2 n2 c2⟩ e6).trans yb) 0, blk_cell ((put4_far _ (i := xs.length * 4) ⟨pk, pt, .slice A1 n1 c1, .slice A2 n2 c2⟩ e7).trans yc) 0⟩; done)
        clear hK K
        (try simp only [Act.put, List.getElem_toArray, List.getElem_cons_zero, List.getElem_cons_succ, List.setIfInBounds_toArray, List.set_cons_zero, List.set_cons_succ])
        refine wpAnyH_done (by decide +kernel) ?_ _
        simp only [put4] at ab
        go_wp2_with fail
        refine bodyPost_end (results_none rfl _ _ _) rfl ?_
        refine ⟨HFR.out.trans ((Fr.of g2 (by omega)).trans (Fr.below ab.2)), .inl ⟨([], x, tk2), ?_, rfl, r2.under ab.2 hbn HA.out, ?_⟩⟩
        · unfold listPart; rw [hr]
        · exact ab.1
    · (try simp only [List.getElem_toArray, List.getElem_cons_zero, List.getElem_cons_succ])
      go_simp
      go_at_call 23
      refine (HV.out _ _ r1 hT1).mono ?_
      rintro e' W2 ⟨hG, ⟨⟨pk, pt, pkv, plv⟩, x, tk2, F0, hr, rfl, hR2, hV, hF⟩ | ⟨a', e2, hr, rfl⟩⟩
      case inr =>
        refine ⟨rfl, ⟨HFR.out.trans (Fr.of (g1.trans hG) (by omega)), .inr ⟨a', e2, ?_, rfl⟩⟩⟩
        exact (by unfold listPart; rw [hr])
      obtain ⟨A1, n1, c1, A2, n2, c2, rfl, rfl⟩ := hV.slices
      have i2 := i1.keep hbn hG
      have g2 := g1.trans hG
      have hF := fun k hk => (⟨Nat.le_trans g1.size (hF k hk).1, (hF k hk).2⟩ : Wd.heap.size ≤ k ∧ k < W2.heap.size)
      simp only [PV.val]
      have hz := (hG.block gz (blk_lt hz) (by simp; omega)).trans hz
      refine hK.out _ _ ?_ (fun hHeld => ?_)
      focus ((try dsimp only); exact ⟨blk_cell i2.box 0, blk_cell i2.boxa 0⟩; done)
      clear hK K
      (try simp only [Act.put, List.getElem_toArray, List.getElem_cons_zero, List.getElem_cons_succ, List.setIfInBounds_toArray, List.set_cons_zero, List.set_cons_succ])
      clear hG r1
      have r2 := hR2
      clear hR2
      refine wpAnyH_ready (rs := [1]) (by decide +kernel) (by simp) ?_
      refine AllReadyH.cons rfl (fun K hK => ?_) AllReadyH.nil
      have cl : W2.cell? ⟨n + 3, 3, none⟩ = some (.slice Al xs.length cl0) := blk_cell i2.val 3
      (try simp only [List.getElem_toArray, List.getElem_cons_zero, List.getElem_cons_succ])
      go_simp
      refine hK.out _ _ ?_ (fun hHeld => ?_)
      focus ((try dsimp only); exact ⟨blk_cell i2.box 0, blk_cell i2.boxa 0⟩; done)
      clear hK K
      (try simp only [Act.put, List.getElem_toArray, List.getElem_cons_zero, List.getElem_cons_succ, List.setIfInBounds_toArray, List.set_cons_zero, List.set_cons_succ])
      clear cl
      refine takeSome (i := 6) (v := ?_) (by decide +kernel) rfl (by rfl) (by decide +kernel) (by decide +kernel) (fun _ _ _ h => h) (by assumption) ?_ ?_
      rotate_left
      focus (intro w0 hSw; (try dsimp only at hSw); go_simp; (try (with_reducible rfl)); done)
      (try simp only [Act.put, List.getElem_toArray, List.getElem_cons_zero, List.getElem_cons_succ, List.setIfInBounds_toArray, List.set_cons_zero, List.set_cons_succ])
      refine wpAnyH_ready (rs := [8]) (by decide +kernel) (by simp) ?_
      refine AllReadyH.cons rfl (fun K hK => ?_) AllReadyH.nil
      refine step_append_row 4 72 25 23 iV zV Tryd.underlying23 hiV hzV hsV hbV hcV (by decide) i2.list (by have := g2.size; omega) zeroPV.cells rfl (by decide) gz 1 ?_ (by unfold maxLen; omega) (by omega) rfl _ _ rfl rfl rfl ?_
      · intro j u hu
        rw [blk_cell hz]
        match j, hu with
        | 0, hu => exact hu
        | 1, hu => exact hu
        | 2, hu => exact hu
        | 3, hu => exact hu
      rintro h0 c0 W9 hrow hg hh0
      have ap : Apd b n ar 6 d kv (.slice Al xs.length cl0) l F [] xs Wd W2 W9 F0 ⟨pk, pt, .slice A1 n1 c1, .slice A2 n2 c2⟩ x h0 c0 := ⟨i2, hnd, g2.size, hV, hF, hkl, hll, hrow, hg, hh0⟩
      have bx := ap.base
      obtain ⟨⟨z0, z1, z2, z3⟩, zf⟩ := ap.cells
      have hgb : W9.heap[n]? = _ := (hg.block n (blk_lt i2.box) (fun e => by have := i2.list.lt _ e.symm; omega)).trans i2.box
      have hgc : W9.heap[n + 1]? = _ := (hg.block (n + 1) (blk_lt i2.boxa) (fun e => by have := i2.list.lt _ e.symm; omega)).trans i2.boxa
      have hgv : W9.heap[n + 3]? = _ := (hg.block (n + 3) (blk_lt i2.val) (fun e => by have := i2.list.lt _ e.symm; omega)).trans i2.val
      have v3 : W9.cell? ⟨n + 3, 3, none⟩ = some (.slice Al xs.length cl0) := blk_cell hgv 3
      have vf := blk_frozen hgv 3
      refine hK.out _ _ ?_ (fun hHeld => ?_)
      focus ((try dsimp only); exact ⟨blk_cell hgb 0, blk_cell hgc 0⟩; done)
      clear hK K
      (try simp only [Act.put, List.getElem_toArray, List.getElem_cons_zero, List.getElem_cons_succ, List.setIfInBounds_toArray, List.set_cons_zero, List.set_cons_succ])
      have zf0 := zf (xs.length * 4)
      have zf1 := zf (xs.length * 4 + 1)
      have zf2 := zf (xs.length * 4 + 2)
      have zf3 := zf (xs.length * 4 + 3)
      clear zf
      refine takeSome (i := 9) (v := ?_) (by decide +kernel) rfl (by rfl) (by decide +kernel) (by decide +kernel) (fun _ _ _ h => h) (by assumption) ?_ ?_
      rotate_left
      focus (intro w0 hSw; (try dsimp only at hSw); go_simp; (try (with_reducible rfl)); done)
      (try simp only [Act.put, List.getElem_toArray, List.getElem_cons_zero, List.getElem_cons_succ, List.setIfInBounds_toArray, List.set_cons_zero, List.set_cons_succ])
      refine takeSome (i := 11) (v := ?_) (by decide +kernel) rfl (by rfl) (by decide +kernel) (by decide +kernel) (fun _ _ _ h => h) (by assumption) ?_ ?_
      rotate_left
      focus (intro w0 hSw; (try dsimp only at hSw); go_simp; (try (with_reducible rfl)); done)
      (try simp only [Act.put, List.getElem_toArray, List.getElem_cons_zero, List.getElem_cons_succ, List.setIfInBounds_toArray, List.set_cons_zero, List.set_cons_succ])
      refine wpAnyH_ready (rs := [10, 12]) (by decide +kernel) (by simp) ?_
      refine AllReadyH.cons rfl (fun K hK => ?_) (AllReadyH.cons rfl (fun K hK => ?_) AllReadyH.nil)
      · have e5 : n + 3 ≠ h0 := by omega
        have e6 : n ≠ h0 := by omega
        have e7 : n + 1 ≠ h0 := by omega
        have y3 : (put4 W9 h0 (xs.length * 4) ⟨pk, pt, .slice A1 n1 c1, .slice A2 n2 c2⟩).cell? ⟨n + 3, 3, none⟩ = some (.slice Al xs.length cl0) := (cell_keep (put4_far W9 _ e5) 3).trans v3
        have yf : (put4 W9 h0 (xs.length * 4) ⟨pk, pt, .slice A1 n1 c1, .slice A2 n2 c2⟩).frozen? ⟨n + 3, 3, none⟩ = false := blk_frozen ((put4_far W9 _ e5).trans hgv) 3
        have yb := (put4_far W9 (i := xs.length * 4) ⟨pk, pt, .slice A1 n1 c1, .slice A2 n2 c2⟩ e6).trans hgb
        have yc := (put4_far W9 (i := xs.length * 4) ⟨pk, pt, .slice A1 n1 c1, .slice A2 n2 c2⟩ e7).trans hgc
        (try simp only [List.getElem_toArray, List.getElem_cons_zero, List.getElem_cons_succ])
        go_simp
        refine hK.out _ _ ?_ (fun hHeld => ?_)
        focus ((try dsimp only); exact ⟨blk_cell yb 0, blk_cell yc 0⟩; done)
        clear hK K
        (try simp only [Act.put, List.getElem_toArray, List.getElem_cons_zero, List.getElem_cons_succ, List.setIfInBounds_toArray, List.set_cons_zero, List.set_cons_succ])
        refine wpAnyH_ready (rs := [12]) (by decide +kernel) (by simp) ?_
        refine AllReadyH.cons rfl (fun K hK => ?_) AllReadyH.nil
        have ab := ap.first
        simp only [put4] at ab y3 yf
        (try simp only [List.getElem_toArray, List.getElem_cons_zero, List.getElem_cons_succ])
        go_simp
        refine hK.out _ _ ?_ (fun hHeld => ?_)
        focus ((try dsimp only); exact ⟨blk_cell ((Below.heap_setCell _ _ _ n (by show n ≠ n + 3; omega)).trans yb) 0, blk_cell ((Below.heap_setCell _ _ _ (n + 1) (by show n + 1 ≠ n + 3; omega)).trans yc) 0⟩; done)
        clear hK K
        (try simp only [Act.put, List.getElem_toArray, List.getElem_cons_zero, List.getElem_cons_succ, List.setIfInBounds_toArray, List.set_cons_zero, List.set_cons_succ])
        refine wpAnyH_done (by decide +kernel) ?_ _
        go_wp2_with fail
        refine bodyPost_end (results_none rfl _ _ _) rfl ?_
        refine ⟨HFR.out.trans ((Fr.of g2 (by omega)).trans (Fr.below ab.2)), .inl ⟨([], x, tk2), ?_, rfl, r2.under ab.2 hbn HA.out, ?_⟩⟩
        · unfold listPart; rw [hr]
        · exact ab.1
      · have e5 : n + 3 ≠ h0 := by omega
        have e6 : n ≠ h0 := by omega
        have e7 : n + 1 ≠ h0 := by omega
        have yb := (Below.heap_setCell W9 ⟨n + 3, 3, none⟩ (.slice (some ⟨h0, 0, none⟩) (xs.length + 1) c0) n (by show n ≠ n + 3; omega)).trans hgb
        have yc := (Below.heap_setCell W9 ⟨n + 3, 3, none⟩ (.slice (some ⟨h0, 0, none⟩) (xs.length + 1) c0) (n + 1) (by show n + 1 ≠ n + 3; omega)).trans hgc
        (try simp only [List.getElem_toArray, List.getElem_cons_zero, List.getElem_cons_succ])
        go_simp
        refine hK.out _ _ ?_ (fun hHeld => ?_)
        focus ((try dsimp only); exact ⟨blk_cell yb 0, blk_cell yc 0⟩; done)
        clear hK K
        (try simp only [Act.put, List.getElem_toArray, List.getElem_cons_zero, List.getElem_cons_succ, List.setIfInBounds_toArray, List.set_cons_zero, List.set_cons_succ])
        refine wpAnyH_ready (rs := [10]) (by decide +kernel) (by simp) ?_
        refine AllReadyH.cons rfl (fun K hK => ?_) AllReadyH.nil
        have ab := ap.second
        have q0 := (cell_keep (Below.heap_setCell W9 ⟨n + 3, 3, none⟩ (.slice (some ⟨h0, 0, none⟩) (xs.length + 1) c0) h0 (by show h0 ≠ n + 3; omega)) (xs.length * 4)).trans z0
        have q1 := (cell_keep (Below.heap_setCell W9 ⟨n + 3, 3, none⟩ (.slice (some ⟨h0, 0, none⟩) (xs.length + 1) c0) h0 (by show h0 ≠ n + 3; omega)) (xs.length * 4 + 1)).trans z1
        have q2 := (cell_keep (Below.heap_setCell W9 ⟨n + 3, 3, none⟩ (.slice (some ⟨h0, 0, none⟩) (xs.length + 1) c0) h0 (by show h0 ≠ n + 3; omega)) (xs.length * 4 + 2)).trans z2
        have q3 := (cell_keep (Below.heap_setCell W9 ⟨n + 3, 3, none⟩ (.slice (some ⟨h0, 0, none⟩) (xs.length + 1) c0) h0 (by show h0 ≠ n + 3; omega)) (xs.length * 4 + 3)).trans z3
        have qf : ∀ i, (W9.setCell ⟨n + 3, 3, none⟩ (.slice (some ⟨h0, 0, none⟩) (xs.length + 1) c0)).frozen? ⟨h0, i, none⟩ = false := fun i => (World.frozen?_of_block (a := ⟨h0, i, none⟩) (Below.heap_setCell W9 ⟨n + 3, 3, none⟩ (.slice (some ⟨h0, 0, none⟩) (xs.length + 1) c0) h0 (by show h0 ≠ n + 3; omega))).trans (ap.cells.2 i)
        have qf0 := qf (xs.length * 4)
        have qf1 := qf (xs.length * 4 + 1)
        have qf2 := qf (xs.length * 4 + 2)
        have qf3 := qf (xs.length * 4 + 3)
        clear qf
        (try simp only [List.getElem_toArray, List.getElem_cons_zero, List.getElem_cons_succ])
        go_simp
        refine hK.out _ _ ?_ (fun hHeld => ?_)
        focus ((try dsimp only); exact ⟨blk_cell ((put4_far _ (i := xs.length * 4) ⟨pk, pt, .slice A1 n1 c1, .slice A2 n2 c2⟩ e6).trans yb) 0, blk_cell ((put4_far _ (i := xs.length * 4) ⟨pk, pt, .slice A1 n1 c1, .slice A2 n2 c2⟩ e7).trans yc) 0⟩; done)
        clear hK K
        (try simp only [Act.put, List.getElem_toArray, List.getElem_cons_zero, List.getElem_cons_succ, List.setIfInBounds_toArray, List.set_cons_zero, List.set_cons_succ])
        refine wpAnyH_done (by decide +kernel) ?_ _
        simp only [put4] at ab
        go_wp2_with fail
        refine bodyPost_end (results_none rfl _ _ _) rfl ?_
        refine ⟨HFR.out.trans ((Fr.of g2 (by omega)).trans (Fr.below ab.2)), .inl ⟨([], x, tk2), ?_, rfl, r2.under ab.2 hbn HA.out, ?_⟩⟩
        · unfold listPart; rw [hr]
        · exact ab.1
end Go.Proofs.YtmjooghfghmngaaDoor
