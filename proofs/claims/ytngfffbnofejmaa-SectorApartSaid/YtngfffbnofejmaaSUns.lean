/- Layer sector: what is unsure, copies. -/
import Derived.Test.YtngfffbnofejmaaSDs4
namespace Go.Proofs.Ytngfffbnofejmaa
open Go.RowKit Go.Lib Go.ChangeMaps Go.MapKept

/-- All that is new. -/
def Fresh (W W' : World) : Nat → Prop := fun k => W.heap.size ≤ k ∧ k < W'.heap.size
theorem Fresh.ter (W W' : World) : Ter W' (Fresh W W') := fun _ h => h.2
theorem Fresh.more {W W1 W2 : World} (h : W1.heap.size ≤ W2.heap.size) : ∀ k, Fresh W W1 k → Fresh W W2 k := fun k e => ⟨e.1, by have := e.2; omega⟩
set_option maxHeartbeats 2000000 in
theorem Unsure_any {W : World} {T : Nat → Prop} {st : DS} {g : Nat} (h : Dk W T st g) (hn : st.log.length ≤ 100000) :
    Calls Try.prog 18 #[.pointer (some ⟨g, 0, none⟩)] W fun e w' => ∃ v U, e = .returned v ∧ Below W.heap.size W w' ∧ LogAt w' (Fresh W w') v U ∧ U.map WV.w = st.un := by
  obtain ⟨ms, ml, v, S, L, U, h⟩ := h
  have hlen : U.length = st.un.length := by rw [← h.un, List.length_map]
  have hle : U.length ≤ 100000 := by
    rw [hlen]; unfold DS.un
    rw [List.length_drop]; omega
  obtain ⟨A, c, rfl⟩ := h.row.shape
  have HH := Lib.hid h
  have HLE := Lib.hid hle
  have c5 := h.c5
  clear h hn hlen
  go_enter Try.func18, Try.ntmps18
  go_wp2_with fail
  go_loopg [3, 13] U.length (fun m s i wr => ∃ (k : Nat) (V : List WV), i = .int .i64 k ∧ k ≤ U.length ∧ m = U.length - k ∧ Hid (Below W.heap.size W wr ∧ LogAt wr (Fresh W wr) s V ∧ V.map WV.w = (U.take k).map WV.w))
  case atStart => exact ⟨0, [], rfl, Nat.zero_le _, rfl, Lib.hid ⟨Below.refl _ _, { row := World.ownsRow_nil _ _ _ _, ter := fun k e => (by cases e), sv := fun x hx => (by cases hx) }, by rw [List.take_zero]⟩⟩
  case round =>
    obtain ⟨k, V, rfl, hk, rfl, HR⟩ := hrel
    by_cases hlt : k < U.length
    · have hl1 : (k : Int) < (U.length : Int) := by omega
      have hl0 : (0 : Int) ≤ (k : Int) := by omega
      obtain ⟨b, c', ev, k0, k1⟩ := HH.out.row.get hlt
      injection ev with e1 e2 e3
      subst e1
      subst e3
      have hb0 : b < W.heap.size := by
        obtain ⟨cur, hh⟩ := HH.out.row.blk rfl
        exact blk_lt hh
      have k0 := (HR.out.1.cell (p := ⟨b, k * 2, none⟩) hb0).trans k0
      have k1 := (HR.out.1.cell (p := ⟨b, k * 2 + 1, none⟩) hb0).trans k1
      have HW := Lib.hid (show (U.take (k + 1)).map WV.w = (U.take k).map WV.w ++ [WV.w U[k]] by
        rw [List.take_add_one, List.getElem?_eq_getElem hlt, List.map_append]; rfl)
      have HX := Lib.hid (HH.out.row.sv _ (List.getElem_mem hlt))
      generalize U[k] = x at *
      obtain ⟨xi, xA, xc, xb⟩ := x
      have hxl : xb.length = 512 := HX.out.2.1
      replace k1 : wr.cell? ⟨b, k * 2 + 1, none⟩ = some (.slice xA 512 xc) := by rw [k1, ← hxl]; rfl
      have HXL := Lib.hid hxl
      clear hxl
      have HKK := Lib.hid hk
      obtain ⟨A3, c3, es⟩ := HR.out.2.1.shape
      obtain ⟨q3, hq3⟩ : ∃ q, Hid (V.length = q) := ⟨_, Lib.hid rfl⟩
      rw [hq3.out] at es
      subst es
      go_upto_region 7 with (fail)
      have hb1 := Below.alloc (Below.refl wr.heap.size wr) (Nat.le_refl _) (Obj.cells #[.int .i64 (xi : Nat), .slice xA 512 xc] 51 (0, 0))
      have hn1 : (wr.alloc (Obj.cells #[.int .i64 (xi : Nat), .slice xA 512 xc] 51 (0, 0))).drew.heap[wr.heap.size]? = _ := heap_alloc_new wr (Obj.cells #[.int .i64 (xi : Nat), .slice xA 512 xc] 51 (0, 0))
      replace hb1 := hb1.drew
      obtain ⟨u, hu⟩ : ∃ u, (wr.alloc (Obj.cells #[.int .i64 (xi : Nat), .slice xA 512 xc] 51 (0, 0))).drew = u := ⟨_, rfl⟩
      obtain ⟨bb, hbb⟩ : ∃ bb, wr.heap.size = bb := ⟨_, rfl⟩
      rw [hu] at hb1 hn1
      have HRB : Hid (∀ k, (Value.slice A3 q3 c3).ownBlock = some k → k ≠ bb) := Lib.hid (fun k e e2 => by have := (HR.out.2.1.ter k e).2; omega)
      rw [hbb] at hn1 ⊢
      have HBU := Lib.hid (HR.out.1.trans (hb1.mono HR.out.1.size))
      have HNU := Lib.hid hn1
      have HLU := Lib.hid (HR.out.2.1.on (W' := u) (T' := Fresh W u) (Fresh.more hb1.size) (fun k hk => hb1.block k hk.2))
      have HXU : Hid (SvAt u T ⟨xA, xc, xb⟩) := Lib.hid (HX.out.on (fun _ h => h) (fun k h1 _ => HBU.out.block k (HH.out.ter k h1)))
      have HVM := Lib.hid HR.out.2.2
      have HCL0 := Clone_sv HXU.out
      rw [show (⟨xA, xc, xb⟩ : SV).v = .slice xA 512 xc by rw [← HXL.out]; rfl] at HCL0
      have HCL := Lib.hid HCL0
      have HS0 := Lib.hid (show u.cell? ⟨bb, 0, none⟩ = some (.int .i64 (xi : Nat)) ∧ u.cell? ⟨bb, 1, none⟩ = some (.slice xA 512 xc) from ⟨blk_cell hn1 0, blk_cell hn1 1⟩)
      clear hb1 hn1 HCL0 HR k0 k1
      refine wp_region_held_drew (S := fun W => W.cell? ⟨bb, 0, none⟩ = some (.int .i64 (xi : Nat)) ∧ W.cell? ⟨bb, 1, none⟩ = some (.slice xA 512 xc)) (by kernel_rfl) ?_ (fun hHeld => ?_)
      · (try dsimp only)
        rw [hu]
        exact HS0.out
      rw [hu] at hHeld ⊢
      clear hu hbb
      refine takeSome (i := 0) (v := ?_) (by decide +kernel) rfl (by rfl) (by decide +kernel) (by decide +kernel) (fun _ _ _ h => h) (by assumption) ?_ ?_
      rotate_left
      focus (intro w0 hSw; (try dsimp only at hSw); go_simp; (try (with_reducible rfl)); done)
      (try simp only [Act.put, List.getElem_toArray, List.getElem_cons_zero, List.setIfInBounds_toArray, List.set_cons_zero, List.set_cons_succ])
      refine takeSome (i := 1) (v := ?_) (by decide +kernel) rfl (by rfl) (by decide +kernel) (by decide +kernel) (fun _ _ _ h => h) (by assumption) ?_ ?_
      rotate_left
      focus (intro w0 hSw; (try dsimp only at hSw); go_simp; (try (with_reducible rfl)); done)
      (try simp only [Act.put, List.getElem_toArray, List.getElem_cons_zero, List.getElem_cons_succ, List.setIfInBounds_toArray, List.set_cons_zero, List.set_cons_succ])
      refine takeSome (i := 2) (v := ?_) (by decide +kernel) rfl (by rfl) (by decide +kernel) (by decide +kernel) (fun _ _ _ h => h) (by assumption) ?_ ?_
      rotate_left
      focus (intro w0 hSw; (try dsimp only at hSw); go_simp; (try (with_reducible rfl)); done)
      (try simp only [Act.put, List.getElem_toArray, List.getElem_cons_zero, List.getElem_cons_succ, List.setIfInBounds_toArray, List.set_cons_zero, List.set_cons_succ])
      refine takeSome (i := 3) (v := ?_) (by decide +kernel) rfl (by rfl) (by decide +kernel) (by decide +kernel) (fun _ _ _ h => h) (by assumption) ?_ ?_
      rotate_left
      focus (intro w0 hSw; (try dsimp only at hSw); go_simp; (try (with_reducible rfl)); done)
      (try simp only [Act.put, List.getElem_toArray, List.getElem_cons_zero, List.getElem_cons_succ, List.setIfInBounds_toArray, List.set_cons_zero, List.set_cons_succ])
      refine takeSome (i := 4) (v := ?_) (by decide +kernel) rfl (by rfl) (by decide +kernel) (by decide +kernel) (fun _ _ _ h => h) (by assumption) ?_ ?_
      rotate_left
      focus (intro w0 hSw; (try dsimp only at hSw); go_simp; (try (with_reducible rfl)); done)
      (try simp only [Act.put, List.getElem_toArray, List.getElem_cons_zero, List.getElem_cons_succ, List.setIfInBounds_toArray, List.set_cons_zero, List.set_cons_succ])
      refine wpAnyH_ready (rs := [5]) (by decide +kernel) (by simp) ?_
      refine AllReadyH.cons rfl (fun K hK => ?_) AllReadyH.nil
      (try simp only [List.getElem_toArray, List.getElem_cons_zero, List.getElem_cons_succ])
      go_simp
      (go_at_call 26; refine HCL.out.mono ?_; rintro e' w2 ⟨v2, rfl, hr2⟩; have HR2 := Lib.hid hr2)
      refine hK.out _ _ ?_ (fun hHeld => ?_)
      focus ((try dsimp only); exact ⟨(hr2.1.cell (p := ⟨bb, 0, none⟩) (blk_lt HNU.out)).trans HS0.out.1, (hr2.1.cell (p := ⟨bb, 1, none⟩) (blk_lt HNU.out)).trans HS0.out.2⟩; done)
      clear hK K
      (try simp only [Act.put, List.getElem_toArray, List.getElem_cons_zero, List.getElem_cons_succ, List.setIfInBounds_toArray, List.set_cons_zero, List.set_cons_succ])
      obtain ⟨x2, ev, hx2, hsv⟩ := HR2.out.sv HXL.out
      have ev2 : x2.v = .slice x2.A 512 x2.cap := by unfold SV.v; rw [hx2, HXL.out]
      rw [ev2] at ev
      subst ev
      refine takeSome (i := 6) (v := ?_) (by decide +kernel) rfl (by rfl) (by decide +kernel) (by decide +kernel) (fun _ _ _ h => h) (by assumption) ?_ ?_
      rotate_left
      focus (intro w0 hSw; (try dsimp only at hSw); go_simp; (try (with_reducible rfl)); done)
      (try simp only [Act.put, List.getElem_toArray, List.getElem_cons_zero, List.getElem_cons_succ, List.setIfInBounds_toArray, List.set_cons_zero, List.set_cons_succ])
      have ha := Below.alloc (Below.refl w2.heap.size w2) (Nat.le_refl _) (Obj.cells #[.int .i64 (xi : Nat), .slice x2.A 512 x2.cap] 51 (0, 0))
      have hal := heap_alloc_new w2 (Obj.cells #[.int .i64 (xi : Nat), .slice x2.A 512 x2.cap] 51 (0, 0))
      obtain ⟨u3, hu3⟩ : ∃ u, w2.alloc (Obj.cells #[.int .i64 (xi : Nat), .slice x2.A 512 x2.cap] 51 (0, 0)) = u := ⟨_, rfl⟩
      rw [hu3] at ha hal
      have hb2 := HR2.out.1
      have HB3 := Lib.hid (hb2.trans (ha.mono hb2.size))
      have HN3 := Lib.hid hal
      have HL3 := Lib.hid (HLU.out.on (W' := u3) (T' := Fresh W u3) (Fresh.more HB3.out.size) (fun k hk => HB3.out.block k hk.2))
      have HX3 : Hid (SvAt u3 (Fresh W u3) x2) := Lib.hid ((hsv (Fresh u w2) (fun k h1 h2 => ⟨h1, h2⟩)).on (fun k e => ⟨by have := HBU.out.size; have := e.1; omega, by have := ha.size; have := e.2; omega⟩) (fun k h1 _ => ha.block k h1.2))
      have HEN := Lib.hid (show (#[.int .i64 (xi : Nat), .slice x2.A 512 x2.cap] : Array Value).toList = encW (xi, x2) by unfold encW; rw [ev2])
      have HS3 := Lib.hid (show u3.cell? ⟨bb, 0, none⟩ = some (.int .i64 (xi : Nat)) ∧ u3.cell? ⟨bb, 1, none⟩ = some (.slice xA 512 xc) from ⟨(HB3.out.cell (p := ⟨bb, 0, none⟩) (blk_lt HNU.out)).trans HS0.out.1, (HB3.out.cell (p := ⟨bb, 1, none⟩) (blk_lt HNU.out)).trans HS0.out.2⟩)
      have HX2 := Lib.hid hx2
      clear ha hal hb2 hx2 hsv ev2
      refine wpAnyH_ready (rs := [7]) (by decide +kernel) (by simp) ?_
      refine AllReadyH.cons rfl (fun K hK => ?_) AllReadyH.nil
      (try simp only [List.getElem_toArray, List.getElem_cons_zero, List.getElem_cons_succ])
      go_simp
      refine hK.out _ _ ?_ (fun hHeld => ?_)
      focus ((try dsimp only); exact HS3.out; done)
      clear hK K
      (try simp only [Act.put, List.getElem_toArray, List.getElem_cons_zero, List.getElem_cons_succ, List.setIfInBounds_toArray, List.set_cons_zero, List.set_cons_succ])
      refine wpAnyH_ready (rs := [8]) (by decide +kernel) (by simp) ?_
      refine AllReadyH.cons rfl (fun K hK => ?_) AllReadyH.nil
      refine step_appW HL3.out (Fresh.ter _ _) (xi, x2) HX3.out HN3.out HEN.out (by have h1 := congrArg List.length HVM.out; simp only [List.length_map, List.length_take] at h1; have := HLE.out; omega) (by rfl) _ _ (by rfl) (by rfl) 1 (by rfl) ?_; intro v5 w5 hr5 hg5 _; have hf5 := hr5 (fun _ => True) (fun _ _ => trivial) (fun _ => trivial); have hb5 : Below W.heap.size W w5 := (HBU.out.trans (HB3.out.mono HBU.out.size)).grown hg5 (by have := HBU.out.size; have := HB3.out.size; omega) (fun k e => (HL3.out.ter k e).1); have hs5 : w5.cell? ⟨bb, 0, none⟩ = some (.int .i64 (xi : Nat)) ∧ w5.cell? ⟨bb, 1, none⟩ = some (.slice xA 512 xc) := ⟨hg5.cell HS3.out.1 (fun e => HRB.out _ e.symm rfl), hg5.cell HS3.out.2 (fun e => HRB.out _ e.symm rfl)⟩
      refine hK.out _ _ ?_ (fun hHeld => ?_)
      focus ((try dsimp only); exact hs5; done)
      clear hK K
      (try simp only [Act.put, List.getElem_toArray, List.getElem_cons_zero, List.getElem_cons_succ, List.setIfInBounds_toArray, List.set_cons_zero, List.set_cons_succ])
      have HR5 := Lib.hid (hr5 (Fresh W w5) (Fresh.more hg5.size) (fun h => ⟨by have := HBU.out.size; have := HB3.out.size; omega, h⟩))
      have HB5 := Lib.hid hb5
      clear hr5 hg5 hf5 hb5 hs5
      refine takeSome (i := 9) (v := ?_) (by decide +kernel) rfl (by rfl) (by decide +kernel) (by decide +kernel) (fun _ _ _ h => h) (by assumption) ?_ ?_
      rotate_left
      focus (intro w0 hSw; (try dsimp only at hSw); go_simp; (try (with_reducible rfl)); done)
      (try simp only [Act.put, List.getElem_toArray, List.getElem_cons_zero, List.getElem_cons_succ, List.setIfInBounds_toArray, List.set_cons_zero, List.set_cons_succ])
      refine wpAnyH_done (by decide +kernel) ?_ _
      clear hHeld
      go_wp2_with fail
      go_roundg (U.length - (k + 1))
      case measure => have := HKK.out; omega
      case rel =>
        refine ⟨k + 1, V ++ [(xi, x2)], by go_num, by omega, rfl, Lib.hid ⟨HB5.out, HR5.out, ?_⟩⟩
        rw [HW.out, List.map_append, HVM.out]
        unfold WV.w
        rw [List.map_cons, List.map_nil, HX2.out]
    · obtain rfl : k = U.length := by omega
      have HRR := Lib.hid HR.out
      clear HR
      go_wp2_with fail
      go_ret
      exact ⟨_, V, rfl, HRR.out.1, HRR.out.2.1, by rw [HRR.out.2.2, List.take_length]; exact HH.out.un⟩
theorem Unsure_nil (W : World) : Calls Try.prog 18 #[.pointer none] W fun e w' => e = .returned (.slice none 0 0) ∧ w' = W := by
  go_enter Try.func18, Try.ntmps18
  go_wp2_with fail
  go_ret
  exact ⟨rfl, rfl⟩
theorem Copy_nil (W : World) : Calls Try.prog 10 #[.pointer none] W fun e w' => e = .returned (.pointer none) ∧ w' = W := by
  go_enter Try.func10, Try.ntmps10
  go_wp2_with fail
  go_ret
  exact ⟨rfl, rfl⟩
theorem Read_nil (W : World) (i : Int) : Calls Try.prog 16 #[.pointer none, .int .i64 i] W fun e w' => e = .returned (.tuple #[.slice none 0 0, .int .i64 1]) ∧ w' = W := by
  have HF := Lib.hid (fault_nil W)
  go_enter Try.func16, Try.ntmps16
  go_wp2_with (go_at_call 31; refine HF.out.mono ?_; rintro e' w' ⟨rfl, hwz⟩; have hwz := hwz.symm; subst hwz)
  go_ret2
  exact ⟨rfl, rfl⟩
theorem Write_nil (W : World) (i : Int) (A : Option Addr) (n c : Nat) : Calls Try.prog 22 #[.pointer none, .int .i64 i, .slice A n c] W fun e w' => e = .returned (.int .i64 1) ∧ w' = W := by
  have HF := Lib.hid (fault_nil W)
  go_enter Try.func22, Try.ntmps22
  go_wp2_with (go_at_call 31; refine HF.out.mono ?_; rintro e' w' ⟨rfl, hwz⟩; have hwz := hwz.symm; subst hwz)
  go_ret
  exact ⟨rfl, rfl⟩
theorem Barrier_nil (W : World) : Calls Try.prog 14 #[.pointer none] W fun e w' => e = .returned (.int .i64 1) ∧ w' = W := by
  have HF := Lib.hid (fault_nil W)
  go_enter Try.func14, Try.ntmps14
  go_wp2_with (go_at_call 31; refine HF.out.mono ?_; rintro e' w' ⟨rfl, hwz⟩; have hwz := hwz.symm; subst hwz)
  go_ret
  exact ⟨rfl, rfl⟩
theorem Crash_nil (W : World) (m : Nat) : Calls Try.prog 17 #[.pointer none, .int .u64 (m : Nat)] W fun e w' => e = .returned (.int .i64 1) ∧ Below W.heap.size W w' := by
  have HB := Lib.hid ((Below.refl _ W).alloc (Nat.le_refl _) (Obj.cells #[.int .u64 (m : Nat)] 32 (0, 0)))
  go_enter Try.func17, Try.ntmps17
  go_wp2_with fail
  go_ret
  exact ⟨rfl, HB.out⟩
theorem Len_nil (W : World) : Calls Try.prog 24 #[.pointer none] W fun e w' => e = .returned (.int .i64 0) ∧ w' = W := by
  go_enter Try.func24, Try.ntmps24
  go_wp2_with fail
  go_ret
  exact ⟨rfl, rfl⟩
theorem Down_nil (W : World) : Calls Try.prog 19 #[.pointer none] W fun e w' => e = .returned (.bool true) ∧ w' = W := by
  go_enter Try.func19, Try.ntmps19
  go_wp2_with fail
  go_ret
  exact ⟨rfl, rfl⟩
end Go.Proofs.Ytngfffbnofejmaa
