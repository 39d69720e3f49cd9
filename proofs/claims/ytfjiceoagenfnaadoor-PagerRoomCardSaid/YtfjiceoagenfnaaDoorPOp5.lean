/- Layer pager: Open. -/
import Derived.Test.YtfjiceoagenfnaaDoorPOp4
set_option maxRecDepth 20000
namespace Go.Proofs.YtfjiceoagenfnaaDoor
open Go.RowKit Go.Lib Go.ChangeMaps Go.MapKept

theorem infoS : (Tryd.prog.info? 79).map (fun i => (i.zero, i.size, i.bytes)) = some (some (.int .u8 0), 1, 1) := by kernel_rfl
theorem infoT : (Tryd.prog.info? 69).map (·.size) = some 3 := by kernel_rfl
/-- make of states. -/
theorem made_states (W : World) (n : Nat) (hn : n ≤ 140737488355328) :
    (Instr.makeSlice 67 (.int .i64 (n : Nat)) (.int .i64 (n : Nat))).run Tryd.prog W = .ok (.slice (some ⟨W.heap.size, 0, none⟩) n n) (W.alloc (.cells (stV (List.replicate n 0)).toArray 79)) := by
  obtain ⟨i, hi, hz0, hz1, hz2⟩ : ∃ i, Tryd.prog.info? 79 = some i ∧ i.zero = some (.int .u8 0) ∧ i.size = 1 ∧ i.bytes = 1 := by
    obtain ⟨i, h1, h2, h3, h4⟩ := info_parts infoS
    exact ⟨i, h1, h2, h3, h4⟩
  have hr := run_make (P := Tryd.prog) W 67 79 i (.int .u8 0) Tryd.underlying67 hi hz0 .i64 .i64 (n : Int) (n : Int) (by omega) (by omega) (by rw [hz2]; omega) (by omega)
  rw [hz1] at hr
  have hl : (madeCells #[.int .u8 0] n) = (stV (List.replicate n 0)).toArray := by
    apply Array.toList_inj.1
    unfold madeCells stV
    rw [Array.toList_map, Array.toList_range, List.map_replicate]
    refine List.ext_getElem (by simp) fun i h1 h2 => ?_
    rw [List.getElem_map]
    simp only [List.getElem_replicate]
    rw [show (List.range n)[i]'(by simpa using h1) % (#[Value.int .u8 0] : Array Value).size = 0 from Nat.mod_one _]
    rfl
  have h := hr
  simp at h
  rw [show (Value.int IntKind.u8 0).cells = #[.int .u8 0] from rfl, hl] at h
  exact h
/-- A new table. -/
def TNew (W w' : World) (n : Nat) (e : Ending) : Prop := ∃ gs, e = .returned (.agg #[.slice (some ⟨gs, 0, none⟩) n n, .int .i64 ((n - 2 : Nat) : Int), .int .i64 2]) ∧ Below W.heap.size W w' ∧ W.heap.size ≤ gs ∧ w'.heap[gs]? = some (.cells (stV (List.replicate n 0)).toArray 79 (0, 0))
set_option maxHeartbeats 2000000 in
theorem allFree_any (W : World) (n : Nat) (h4 : 4 ≤ n) (hn : n ≤ 65536) : Calls Tryd.prog 26 #[.int .i64 (n : Nat)] W fun e w' => TNew W w' n e := by
  have hb1 : Below W.heap.size W (W.alloc (Obj.cells #[.slice none 0 0, .int .i64 0, .int .i64 0] 69 (0, 0))) := (Below.refl _ W).alloc (Nat.le_refl _) _
  have hn1 := heap_alloc_new W (Obj.cells #[.slice none 0 0, .int .i64 0, .int .i64 0] 69 (0, 0))
  have hs1 := al_size W (Obj.cells #[.slice none 0 0, .int .i64 0, .int .i64 0] 69 (0, 0))
  have hmk := made_states (W.alloc (Obj.cells #[.slice none 0 0, .int .i64 0, .int .i64 0] 69 (0, 0))) n (by omega)
  obtain ⟨u, hu⟩ : ∃ u, W.alloc (Obj.cells #[.slice none 0 0, .int .i64 0, .int .i64 0] 69 (0, 0)) = u := ⟨_, rfl⟩
  rw [hu] at hb1 hn1 hs1 hmk
  have hb2 := Below.alloc (Below.refl u.heap.size u) (Nat.le_refl _) (.cells (stV (List.replicate n 0)).toArray 79 (0, 0))
  have hn2 := heap_alloc_new u (.cells (stV (List.replicate n 0)).toArray 79 (0, 0))
  obtain ⟨u2, hu2⟩ : ∃ v, u.alloc (.cells (stV (List.replicate n 0)).toArray 79 (0, 0)) = v := ⟨_, rfl⟩
  rw [hu2] at hb2 hn2 hmk
  rw [hs1] at hb2 hn2 hmk
  obtain ⟨z, hz⟩ : ∃ z, W.heap.size = z := ⟨_, rfl⟩
  rw [hz] at hb1 hn1 hs1 hmk hb2 hn2
  have hz2 := (hb2.block z (by omega)).trans hn1
  have w1 : IntKind.i64.wrap ((n : Int) - 2) = ((n - 2 : Nat) : Int) := by rw [wrap_in (by omega) (by omega)]; omega
  have c0 := blk_cell hz2 0
  have c1 := blk_cell hz2 1
  have c2 := blk_cell hz2 2
  have f0 := blk_frozen hz2
  have HZ := Lib.hid (And.intro hz (And.intro hb1 (And.intro hs1 (And.intro hb2 (And.intro hn2 hz2)))))
  obtain ⟨m, hm⟩ : ∃ m, Hid (((n - 2 : Nat) : Int) = m) := ⟨_, Lib.hid rfl⟩
  rw [hm.out] at w1
  clear hb1 hn1 hs1 hb2 hn2 hz2 h4 hn hu2
  go_enter Tryd.func26, Tryd.ntmps26
  go_wp2_with fail
  obtain ⟨hz', hb1, hs1, hb2, hn2, hz2⟩ := HZ.out
  have hg0 : ∀ x y v : Value, Fr (fun k => k = z) u2 (((u2.setCell ⟨z, 0, none⟩ x).setCell ⟨z, 1, none⟩ y).setCell ⟨z, 2, none⟩ v) := fun x y v => ((Fr.set (F := (· = z)) rfl).trans (Fr.set (F := (· = z)) rfl) (fun _ _ h => h)).trans (Fr.set (F := (· = z)) rfl) (fun _ _ h => h)
  have hfin : ∀ x y v : Value, (((u2.setCell ⟨z, 0, none⟩ x).setCell ⟨z, 1, none⟩ y).setCell ⟨z, 2, none⟩ v).heap[z]? = some (.cells #[x, y, v] 69 (0, 0)) := fun x y v => by
    have := blk_set (blk_set (blk_set hz2 0 x) 1 y) 2 v
    simpa using this
  refine bodyPost_ret (v := .agg #[.slice (some ⟨z + 1, 0, none⟩) n n, .int .i64 m, .int .i64 2]) ?_ rfl ⟨z + 1, by rw [hm.out], ?_, by omega, ?_⟩
  · exact results_cell_row rfl _ _ z 69 #[.slice (some ⟨z + 1, 0, none⟩) n n, .int .i64 m, .int .i64 2] (0, 0) _ rfl (hfin _ _ _) Tryd.underlying69 rfl infoT
  · rw [hz']
    exact (hg0 _ _ _).below (hz' ▸ (hb1.trans (hb2.mono (by omega)))) (by have := hb2.size; omega) (fun k e => by omega)
  · exact ((hg0 _ _ _).2 (z + 1) (blk_lt hn2) (by omega)).trans hn2
theorem LenP_nil (W : World) : Calls Tryd.prog 24 #[.pointer none] W fun e w' => e = .returned (.int .i64 0) ∧ w' = W := by
  go_enter Tryd.func24, Tryd.ntmps24
  go_wp2_with fail
  go_ret
  exact ⟨rfl, rfl⟩
theorem OpenP_nil (W : World) : Calls Tryd.prog 8 #[.pointer none] W fun e w' => e = .returned (.tuple #[.pointer none, .int .i64 1]) ∧ w' = W := by
  have HL := Lib.hid (LenP_nil W)
  go_enter Tryd.func8, Tryd.ntmps8
  go_wp2_with (go_at_call 24; refine HL.out.mono ?_; rintro e' wz ⟨rfl, hwz⟩; have hwz := hwz.symm; subst hwz)
  go_ret2
  exact ⟨rfl, rfl⟩
theorem OpenP_small {W : World} {T : Nat → Prop} {st : DS} {gd : Nat} (h : Dk W T st gd) (hz : st.sz < 4) : Calls Tryd.prog 8 #[.pointer (some ⟨gd, 0, none⟩)] W fun e w' => e = .returned (.tuple #[.pointer none, .int .i64 1]) ∧ w' = W := by
  have HL := Lib.hid (Len_any h)
  have h4 : (st.sz : Int) < 4 := by omega
  clear h hz
  go_enter Tryd.func8, Tryd.ntmps8
  go_wp2_with (go_at_call 24; refine HL.out.mono ?_; rintro e' wz ⟨rfl, hwz⟩; have hwz := hwz.symm; subst hwz)
  go_ret2
  exact ⟨rfl, rfl⟩
/-- A new Pager over a disk. -/
def ONew (W w' : World) (T : Nat → Prop) (st : DS) (q r gd : Nat) (e : Ending) : Prop := ∃ g gs, e = .returned (.tuple #[.pointer (some ⟨g, 0, none⟩), .int .i64 0]) ∧ Below W.heap.size W w' ∧ W.heap.size ≤ g ∧ W.heap.size ≤ gs ∧ Bo w' T st ⟨List.replicate st.sz 0, q, r⟩ gd g gs
set_option maxHeartbeats 4000000 in
theorem OpenP_any {W : World} (hE : Env W) {T : Nat → Prop} {st : DS} {gd : Nat} (h : Dk W T st gd) (ho : st.out = false) (hz : 4 ≤ st.sz) {q r : Nat} (hl : lastF st.sz st.log = (q, r)) (hq : q ≤ 1000000000) (hr : r ≤ 65536) :
    Calls Tryd.prog 8 #[.pointer (some ⟨gd, 0, none⟩)] W fun e w' => ONew W w' T st q r gd e := by
  have HL := Lib.hid (fun W (h : Dk W T st gd) => Len_any h)
  have HLF := lastFlip_any hE h ho (by omega)
  rw [hl] at HLF
  have HLF := Lib.hid HLF
  have HH := Lib.hid h
  have HZ := Lib.hid (And.intro hz (And.intro hq hr))
  have HOK := Lib.hid h.ok
  have h4 : ¬ (st.sz : Int) < 4 := by omega
  clear h hE ho hz hl hq hr
  go_enter Tryd.func8, Tryd.ntmps8
  go_upto_region 6 with (first | (go_at_call 24; refine (HL.out _ HH.out).mono ?_; rintro e' wz ⟨rfl, hwz⟩; have hwz := hwz.symm; subst hwz) | (go_at_call 25; refine HLF.out.mono ?_; rintro e' w1 ⟨rfl, hb1⟩; have HB1 := Lib.hid hb1; clear hb1))
  have hb2 := (Below.alloc (Below.refl w1.heap.size w1) (Nat.le_refl _) (Obj.cells #[.int .i64 (q : Nat), .int .i64 (r : Nat)] 64 (0, 0))).drew
  have hn2 : (w1.alloc (Obj.cells #[.int .i64 (q : Nat), .int .i64 (r : Nat)] 64 (0, 0))).drew.heap[w1.heap.size]? = _ := heap_alloc_new w1 (Obj.cells #[.int .i64 (q : Nat), .int .i64 (r : Nat)] 64 (0, 0))
  obtain ⟨b, hb⟩ : ∃ b, w1.heap.size = b := ⟨_, rfl⟩
  rw [hb] at hn2 ⊢
  obtain ⟨u, hu⟩ : ∃ u, (w1.alloc (Obj.cells #[.int .i64 (q : Nat), .int .i64 (r : Nat)] 64 (0, 0))).drew = u := ⟨_, rfl⟩
  rw [hu] at hb2 hn2
  have HBU : Hid (Below W.heap.size W u) := Lib.hid (HB1.out.trans (hb2.mono HB1.out.size))
  have HC := Lib.hid (And.intro (blk_cell hn2 0) (And.intro (blk_cell hn2 1) (blk_lt hn2)))
  have HDU := Lib.hid (HH.out.grow HBU.out (fun _ e => e) (HH.out.ter.on HBU.out.size))
  have HLU := Lib.hid (Len_any HDU.out)
  have HAF := Lib.hid (allFree_any u st.sz HZ.out.1 HOK.out.2.2.2)
  clear hb2 hn2 hb
  refine wp_region_held_drew (S := fun W => W.cell? ⟨b, 0, none⟩ = some (.int .i64 (q : Nat)) ∧ W.cell? ⟨b, 1, none⟩ = some (.int .i64 (r : Nat))) (by kernel_rfl) ?_ (fun hHeld => ?_)
  · (try dsimp only)
    rw [hu]
    exact ⟨HC.out.1, HC.out.2.1⟩
  rw [hu] at hHeld ⊢
  clear hu
  refine takeSome (i := 0) (v := ?_) (by decide +kernel) rfl (by rfl) (by decide +kernel) (by decide +kernel) (fun _ _ _ h => h) (by assumption) ?_ ?_
  rotate_left
  focus (intro w0 hSw; (try dsimp only at hSw); go_simp; (try (with_reducible rfl)); done)
  (try simp only [Act.put, List.getElem_toArray, List.getElem_cons_zero, List.setIfInBounds_toArray, List.set_cons_zero, List.set_cons_succ])
  refine takeSome (i := 1) (v := ?_) (by decide +kernel) rfl (by rfl) (by decide +kernel) (by decide +kernel) (fun _ _ _ h => h) (by assumption) ?_ ?_
  rotate_left
  focus (intro w0 hSw; (try dsimp only at hSw); go_simp; (try (with_reducible rfl)); done)
  (try simp only [Act.put, List.getElem_toArray, List.getElem_cons_zero, List.getElem_cons_succ, List.setIfInBounds_toArray, List.set_cons_zero, List.set_cons_succ])
  refine takeSome (i := 4) (v := ?_) (by decide +kernel) rfl (by rfl) (by decide +kernel) (by decide +kernel) (fun _ _ _ h => h) (by assumption) ?_ ?_
  rotate_left
  focus (intro w0 hSw; (try dsimp only at hSw); go_simp; (try (with_reducible rfl)); done)
  (try simp only [Act.put, List.getElem_toArray, List.getElem_cons_zero, List.getElem_cons_succ, List.setIfInBounds_toArray, List.set_cons_zero, List.set_cons_succ])
  refine wpAnyH_ready (rs := [2]) (by decide +kernel) (by simp) ?_
  refine AllReadyH.cons rfl (fun K hK => ?_) AllReadyH.nil
  (try simp only [List.getElem_toArray, List.getElem_cons_zero, List.getElem_cons_succ])
  go_simp
  (go_at_call 24; refine HLU.out.mono ?_; rintro e' wz ⟨rfl, hwz⟩; have hwz := hwz.symm; subst hwz)
  refine hK.out _ _ ?_ (fun hHeld => ?_)
  focus ((try dsimp only); exact hHeld; done)
  clear hK K
  (try simp only [Act.put, List.getElem_toArray, List.getElem_cons_zero, List.getElem_cons_succ, List.setIfInBounds_toArray, List.set_cons_zero, List.set_cons_succ])
  refine wpAnyH_ready (rs := [3]) (by decide +kernel) (by simp) ?_
  refine AllReadyH.cons rfl (fun K hK => ?_) AllReadyH.nil
  (try simp only [List.getElem_toArray, List.getElem_cons_zero, List.getElem_cons_succ])
  go_simp
  (go_at_call 26; refine HAF.out.mono ?_; rintro e' w3 ⟨gs, rfl, hb3, hg3, hn3⟩; have HB3 := Lib.hid hb3; have HG3 := Lib.hid (And.intro hg3 hn3); clear hb3 hg3 hn3)
  refine hK.out _ _ ?_ (fun hHeld => ?_)
  focus ((try dsimp only); exact ⟨(HB3.out.cell (p := ⟨b, 0, none⟩) HC.out.2.2).trans HC.out.1, (HB3.out.cell (p := ⟨b, 1, none⟩) HC.out.2.2).trans HC.out.2.1⟩; done)
  clear hK K
  (try simp only [Act.put, List.getElem_toArray, List.getElem_cons_zero, List.getElem_cons_succ, List.setIfInBounds_toArray, List.set_cons_zero, List.set_cons_succ])
  refine takeSome (i := 5) (v := ?_) (by decide +kernel) rfl (by rfl) (by decide +kernel) (by decide +kernel) (fun _ _ _ h => h) (by assumption) ?_ ?_
  rotate_left
  focus (intro w0 hSw; (try dsimp only at hSw); go_simp; (try (with_reducible rfl)); done)
  (try simp only [Act.put, List.getElem_toArray, List.getElem_cons_zero, List.getElem_cons_succ, List.setIfInBounds_toArray, List.set_cons_zero, List.set_cons_succ])
  refine wpAnyH_ready (rs := [6]) (by decide +kernel) (by simp) ?_
  refine AllReadyH.cons rfl (fun K hK => ?_) AllReadyH.nil
  (try simp only [List.getElem_toArray, List.getElem_cons_zero, List.getElem_cons_succ])
  go_simp
  refine hK.out _ _ ?_ (fun hHeld => ?_)
  focus ((try dsimp only); exact ⟨(((Below.refl _ w3).alloc (Nat.le_refl _) _).cell (p := ⟨b, 0, none⟩) (Nat.lt_of_lt_of_le HC.out.2.2 HB3.out.size)).trans hHeld.1, (((Below.refl _ w3).alloc (Nat.le_refl _) _).cell (p := ⟨b, 1, none⟩) (Nat.lt_of_lt_of_le HC.out.2.2 HB3.out.size)).trans hHeld.2⟩; done)
  clear hK K
  (try simp only [Act.put, List.getElem_toArray, List.getElem_cons_zero, List.getElem_cons_succ, List.setIfInBounds_toArray, List.set_cons_zero, List.set_cons_succ])
  refine takeSome (i := 7) (v := ?_) (by decide +kernel) rfl (by rfl) (by decide +kernel) (by decide +kernel) (fun _ _ _ h => h) (by assumption) ?_ ?_
  rotate_left
  focus (intro w0 hSw; (try dsimp only at hSw); go_simp; (try (with_reducible rfl)); done)
  (try simp only [Act.put, List.getElem_toArray, List.getElem_cons_zero, List.getElem_cons_succ, List.setIfInBounds_toArray, List.set_cons_zero, List.set_cons_succ])
  refine takeSome (i := 8) (v := ?_) (by decide +kernel) rfl (by rfl) (by decide +kernel) (by decide +kernel) (fun _ _ _ h => h) (by assumption) ?_ ?_
  rotate_left
  focus (intro w0 hSw; (try dsimp only at hSw); go_simp; (try (with_reducible rfl)); done)
  (try simp only [Act.put, List.getElem_toArray, List.getElem_cons_zero, List.getElem_cons_succ, List.setIfInBounds_toArray, List.set_cons_zero, List.set_cons_succ])
  refine wpAnyH_done (by decide +kernel) ?_ _
  clear hHeld
  go_wp2_with fail
  go_ret2
  have hb4 := fun o => (Below.refl w3.heap.size w3).alloc (Nat.le_refl _) o
  have hn4 := fun o => heap_alloc_new w3 o
  have hlg : gs < w3.heap.size := blk_lt HG3.out.2
  have hb03 := HBU.out.trans (HB3.out.mono HBU.out.size)
  have hz := HOK.out.2.2.2
  refine ⟨w3.heap.size, gs, rfl, hb03.trans ((hb4 _).mono hb03.size), hb03.size, Nat.le_trans HBU.out.size HG3.out.1, ?_⟩
  have hd3 := HH.out.grow hb03 (fun _ e => e) (HH.out.ter.on hb03.size)
  refine ⟨hd3.grow (hb4 _) (fun _ e => e) (hd3.ter.on (hb4 _).size), ⟨2, ?_⟩, fun e => ?_, fun e => ?_⟩
  · exact { len := List.length_replicate, n4 := ⟨HZ.out.1, hz⟩, few := fun c hc => by rw [List.eq_of_mem_replicate hc]; exact Nat.zero_le _, seq := HZ.out.2.1, root := HZ.out.2.2, lows := ⟨Nat.le_refl _, by have := HZ.out.1; omega, fun i h1 h2 => by omega⟩,
            blk := by rw [roomOf_new]; exact hn4 _, st := ((hb4 _).block gs hlg).trans HG3.out.2 }
  · have := HH.out.ter _ e; have := hb03.size; omega
  · have := HH.out.ter _ e; have := Nat.le_trans HBU.out.size HG3.out.1; omega
end Go.Proofs.YtfjiceoagenfnaaDoor
