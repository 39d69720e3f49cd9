/- Layer pager: Flip. -/
import Derived.Test.YtfjiceoagenfnaaDoorPOp3
set_option maxRecDepth 20000
namespace Go.Proofs.YtfjiceoagenfnaaDoor
open Go.RowKit Go.Lib Go.ChangeMaps Go.MapKept

/-- What settling a root answers, and what it makes of the disk. -/
def setlE (st : DS) (q r : Nat) : Int := if barrE st ≠ 0 then barrE st else if writeE (barrS st) ((q % 2 : Nat) : Int) (rootS (q, r)) ≠ 0 then writeE (barrS st) ((q % 2 : Nat) : Int) (rootS (q, r)) else barrE (writeS (barrS st) ((q % 2 : Nat) : Int) (rootS (q, r)))
def setlS (st : DS) (q r : Nat) : DS := if barrE st ≠ 0 then barrS st else if writeE (barrS st) ((q % 2 : Nat) : Int) (rootS (q, r)) ≠ 0 then writeS (barrS st) ((q % 2 : Nat) : Int) (rootS (q, r)) else barrS (writeS (barrS st) ((q % 2 : Nat) : Int) (rootS (q, r)))
theorem rootS_len (f : Nat × Nat) : (rootS f).length = 512 := sealL_len (by rw [rootD_len]; decide)
theorem barrS_log (st : DS) : (barrS st).log = st.log ∧ (barrS st).sz = st.sz := by
  unfold barrS
  split
  · exact ⟨rfl, rfl⟩
  · split
    · exact ⟨(burn_log st).1, burn_sz st⟩
    · exact ⟨(burn_log st).1, burn_sz st⟩
theorem DkTo.two {W W1 W2 : World} {T : Nat → Prop} {st st' : DS} {g : Nat} (h1 : DkTo W W1 T st g) (h2 : ∀ T1, Dk W1 T1 st g → Ext W T T1 → DkTo W1 W2 T1 st' g) : DkTo W W2 T st' g := by
  obtain ⟨f, T1, e, d⟩ := h1
  exact DkTo.trans f e (h2 T1 d e)
theorem DkTo.low {W W1 W2 : World} {T : Nat → Prop} {st' : DS} {g : Nat} (hb : Below W.heap.size W W1) (h2 : DkTo W1 W2 T st' g) : DkTo W W2 T st' g :=
  DkTo.trans (Fr.of hb) (Ext.refl _ _) h2
theorem Env.fr {F : Nat → Prop} {W W' : World} (h : Env W) (hf : Fr F W W') (hn : ¬ F 0) : Env W' :=
  ⟨fun i hi => (hf.cell (p := ⟨0, i, none⟩) h.2 hn).trans (h.1 i hi), Nat.lt_of_lt_of_le h.2 hf.1.size⟩
set_option maxHeartbeats 4000000 in
theorem settleP_any {W : World} (hE : Env W) {T : Nat → Prop} {st : DS} {ps : PS} {gd g gs : Nat} (h : Bo W T st ps gd g gs) (hl : st.log.length ≤ 90000) (q r : Nat) (hq : q ≤ 2000000000) (hr : r ≤ 65536) (hN : ¬ T 0) :
    Calls Tryd.prog 36 #[.pointer (some ⟨g, 0, none⟩), .agg #[.int .i64 (q : Nat), .int .i64 (r : Nat)]] W fun e w' => e = .returned (.int .i64 (setlE st q r)) ∧ DkTo W w' T (setlS st q r) gd := by
  have hb0 : Below W.heap.size W (W.alloc (Obj.cells #[.int .i64 (q : Nat), .int .i64 (r : Nat)] 64 (0, 0))) := (Below.refl _ W).alloc (Nat.le_refl _) _
  have hn0 := heap_alloc_new W (Obj.cells #[.int .i64 (q : Nat), .int .i64 (r : Nat)] 64 (0, 0))
  have hs0 := al_size W (Obj.cells #[.int .i64 (q : Nat), .int .i64 (r : Nat)] 64 (0, 0))
  have h0 := h.grow hb0
  have HBA := Lib.hid (Barrier_any h0.dk (by omega))
  have HH := Lib.hid h
  have HH0 := Lib.hid h0
  have HB0 := Lib.hid hb0
  have HN0 := Lib.hid (And.intro hn0 hs0)
  have HE := Lib.hid hE
  have HL := Lib.hid hl
  have HQ := Lib.hid (And.intro hq hr)
  have HNN := Lib.hid hN
  obtain ⟨low, hp⟩ := h0.pg
  have d0 := hp.d0
  have HP := Lib.hid hp
  clear h hb0 hn0 hs0 h0 hE hl hq hr hN hp
  obtain ⟨eb, heb⟩ : ∃ x, Hid (barrE st = x) := ⟨_, Lib.hid rfl⟩
  rw [heb.out] at HBA
  by_cases e0 : eb = 0
  · subst e0
    go_enter Tryd.func36, Tryd.ntmps36
    go_upto_region 4 with (go_at_call 55; refine HBA.out.mono ?_; rintro e' w1 ⟨rfl, hd1⟩; have HD1 := Lib.hid hd1; clear hd1)
    obtain ⟨f1, T1, e1, k1⟩ := HD1.out
    have hbT : ¬ T W.heap.size := fun e => Nat.lt_irrefl _ (HH.out.dk.ter _ e)
    have hbox := (f1.2 W.heap.size (by rw [HN0.out.2]; omega) (fun e => hbT e.1)).trans HN0.out.1
    have hp1 := HP.out.fr f1 (fun e => HH.out.tg e.1) (fun e => HH.out.ts e.1)
    have hE1 := ((HE.out.on HB0.out).fr f1 (fun e => HNN.out e.1))
    obtain ⟨b, hb⟩ : ∃ b, W.heap.size = b := ⟨_, rfl⟩
    rw [hb] at hbox ⊢
    obtain ⟨j, hj⟩ : ∃ j, Hid (q % 2 = j) := ⟨_, Lib.hid rfl⟩
    have hpl := place_any w1.drew q r HQ.out.1
    rw [hj.out] at hpl
    have HPL := Lib.hid hpl
    clear hpl
    have HC := Lib.hid (And.intro hp1.d0 (And.intro (blk_cell hbox 0) (And.intro (blk_cell hbox 1) (And.intro (blk_lt hp1.blk) (blk_lt hbox)))))
    have HE1 := Lib.hid hE1
    have HK1 := Lib.hid k1
    have HX1 := Lib.hid (And.intro f1 (And.intro e1 hp1))
    have HTG : Hid (¬ T1 g ∧ ¬ T1 b) := Lib.hid ⟨fun e => (e1.2 _ e).elim HH.out.tg (fun e3 => by have := HH0.out.lt; omega), fun e => (e1.2 _ e).elim (hb ▸ hbT) (fun e3 => by have := HN0.out.2; omega)⟩
    have HSL := Lib.hid (rootS_len (q, r))
    have HLB : Hid ((barrS st).log.length ≤ 90000) := Lib.hid (by rw [(barrS_log st).1]; exact HL.out)
    clear f1 e1 k1 hbT hbox hp1 hE1 hb
    refine wp_region_held_drew (S := fun W => W.cell? ⟨g, 0, none⟩ = some (.pointer (some ⟨gd, 0, none⟩)) ∧ W.cell? ⟨b, 0, none⟩ = some (.int .i64 (q : Nat)) ∧ W.cell? ⟨b, 1, none⟩ = some (.int .i64 (r : Nat))) (by kernel_rfl) ?_ (fun hHeld => ?_)
    · (try dsimp only)
      exact ⟨HC.out.1, HC.out.2.1, HC.out.2.2.1⟩
    refine takeSome (i := 0) (v := ?_) (by decide +kernel) rfl (by rfl) (by decide +kernel) (by decide +kernel) (fun _ _ _ h => h) (by assumption) ?_ ?_
    rotate_left
    focus (intro w0 hSw; (try dsimp only at hSw); go_simp; (try (with_reducible rfl)); done)
    (try simp only [Act.put, List.getElem_toArray, List.getElem_cons_zero, List.setIfInBounds_toArray, List.set_cons_zero, List.set_cons_succ])
    refine takeSome (i := 1) (v := ?_) (by decide +kernel) rfl (by rfl) (by decide +kernel) (by decide +kernel) (fun _ _ _ h => h) (by assumption) ?_ ?_
    rotate_left
    focus (intro w0 hSw; (try dsimp only at hSw); go_simp; (try (with_reducible rfl)); done)
    (try simp only [Act.put, List.getElem_toArray, List.getElem_cons_zero, List.getElem_cons_succ, List.setIfInBounds_toArray, List.set_cons_zero, List.set_cons_succ])
    refine takeSome (i := 2) (v := ?_) (by decide +kernel) rfl (by rfl) (by decide +kernel) (by decide +kernel) (fun _ _ _ h => h) (by assumption) ?_ ?_
    rotate_left
    focus (intro w0 hSw; (try dsimp only at hSw); go_simp; (try (with_reducible rfl)); done)
    (try simp only [Act.put, List.getElem_toArray, List.getElem_cons_zero, List.getElem_cons_succ, List.setIfInBounds_toArray, List.set_cons_zero, List.set_cons_succ])
    refine takeSome (i := 3) (v := ?_) (by decide +kernel) rfl (by rfl) (by decide +kernel) (by decide +kernel) (fun _ _ _ h => h) (by assumption) ?_ ?_
    rotate_left
    focus (intro w0 hSw; (try dsimp only at hSw); go_simp; (try (with_reducible rfl)); done)
    (try simp only [Act.put, List.getElem_toArray, List.getElem_cons_zero, List.getElem_cons_succ, List.setIfInBounds_toArray, List.set_cons_zero, List.set_cons_succ])
    refine takeSome (i := 4) (v := ?_) (by decide +kernel) rfl (by rfl) (by decide +kernel) (by decide +kernel) (fun _ _ _ h => h) (by assumption) ?_ ?_
    rotate_left
    focus (intro w0 hSw; (try dsimp only at hSw); go_simp; (try (with_reducible rfl)); done)
    (try simp only [Act.put, List.getElem_toArray, List.getElem_cons_zero, List.getElem_cons_succ, List.setIfInBounds_toArray, List.set_cons_zero, List.set_cons_succ])
    refine takeSome (i := 6) (v := ?_) (by decide +kernel) rfl (by rfl) (by decide +kernel) (by decide +kernel) (fun _ _ _ h => h) (by assumption) ?_ ?_
    rotate_left
    focus (intro w0 hSw; (try dsimp only at hSw); go_simp; (try (with_reducible rfl)); done)
    (try simp only [Act.put, List.getElem_toArray, List.getElem_cons_zero, List.getElem_cons_succ, List.setIfInBounds_toArray, List.set_cons_zero, List.set_cons_succ])
    refine wpAnyH_ready (rs := [5]) (by decide +kernel) (by simp) ?_
    refine AllReadyH.cons rfl (fun K hK => ?_) AllReadyH.nil
    (try simp only [List.getElem_toArray, List.getElem_cons_zero, List.getElem_cons_succ])
    go_simp
    (go_at_call 56; refine HPL.out.mono ?_; rintro e' w2 ⟨rfl, hb2⟩; have HB2 := Lib.hid (show Below w1.heap.size w1 w2 from (Below.refl _ w1).drew.trans hb2); have HSE := Lib.hid (sealed_any (HE1.out.on HB2.out) q r HQ.out.1 HQ.out.2); clear hb2)
    refine hK.out _ _ ?_ (fun hHeld => ?_)
    focus ((try dsimp only); exact ⟨(HB2.out.cell (p := ⟨g, 0, none⟩) HC.out.2.2.2.1).trans HC.out.1, (HB2.out.cell (p := ⟨b, 0, none⟩) HC.out.2.2.2.2).trans HC.out.2.1, (HB2.out.cell (p := ⟨b, 1, none⟩) HC.out.2.2.2.2).trans HC.out.2.2.1⟩; done)
    clear hK K
    (try simp only [Act.put, List.getElem_toArray, List.getElem_cons_zero, List.getElem_cons_succ, List.setIfInBounds_toArray, List.set_cons_zero, List.set_cons_succ])
    refine wpAnyH_ready (rs := [7]) (by decide +kernel) (by simp) ?_
    refine AllReadyH.cons rfl (fun K hK => ?_) AllReadyH.nil
    (try simp only [List.getElem_toArray, List.getElem_cons_zero, List.getElem_cons_succ])
    go_simp
    (go_at_call 57; refine HSE.out.mono ?_; rintro e' w3 ⟨v3, rfl, hr3⟩; obtain ⟨A3, c3, ev, hB3, hk3, hl3, hm3⟩ := hr3.at; have HB3 := Lib.hid (HB2.out.trans (hr3.1.mono HB2.out.size)); have HWR := Lib.hid (Write_any (HK1.out.grow HB3.out (fun _ e => e) (HK1.out.ter.on HB3.out.size)) (by have := HLB.out; omega) (j : Int) (c := c3) hB3 (fun ad e => ⟨(hk3 ad e).2, fun hT => by have h5 := HK1.out.ter _ hT; have h6 := (hk3 ad e).1; have h7 := HB2.out.size; omega⟩)); rw [HSL.out] at ev HWR; subst ev; clear hr3 hB3 hk3 hl3 hm3)
    refine hK.out _ _ ?_ (fun hHeld => ?_)
    focus ((try dsimp only); exact ⟨(HB3.out.cell (p := ⟨g, 0, none⟩) HC.out.2.2.2.1).trans HC.out.1, (HB3.out.cell (p := ⟨b, 0, none⟩) HC.out.2.2.2.2).trans HC.out.2.1, (HB3.out.cell (p := ⟨b, 1, none⟩) HC.out.2.2.2.2).trans HC.out.2.2.1⟩; done)
    clear hK K
    (try simp only [Act.put, List.getElem_toArray, List.getElem_cons_zero, List.getElem_cons_succ, List.setIfInBounds_toArray, List.set_cons_zero, List.set_cons_succ])
    refine wpAnyH_ready (rs := [8]) (by decide +kernel) (by simp) ?_
    refine AllReadyH.cons rfl (fun K hK => ?_) AllReadyH.nil
    (try simp only [List.getElem_toArray, List.getElem_cons_zero, List.getElem_cons_succ])
    go_simp
    (go_at_call 30; refine HWR.out.mono ?_; rintro e' w4 ⟨rfl, hd4⟩; have HD4 := Lib.hid hd4; clear hd4)
    refine hK.out _ _ ?_ (fun hHeld => ?_)
    focus ((try dsimp only); exact ⟨(HD4.out.1.cell (p := ⟨g, 0, none⟩) (Nat.lt_of_lt_of_le HC.out.2.2.2.1 HB3.out.size) (fun e => HTG.out.1 e.1)).trans ((HB3.out.cell (p := ⟨g, 0, none⟩) HC.out.2.2.2.1).trans HC.out.1), (HD4.out.1.cell (p := ⟨b, 0, none⟩) (Nat.lt_of_lt_of_le HC.out.2.2.2.2 HB3.out.size) (fun e => HTG.out.2 e.1)).trans ((HB3.out.cell (p := ⟨b, 0, none⟩) HC.out.2.2.2.2).trans HC.out.2.1), (HD4.out.1.cell (p := ⟨b, 1, none⟩) (Nat.lt_of_lt_of_le HC.out.2.2.2.2 HB3.out.size) (fun e => HTG.out.2 e.1)).trans ((HB3.out.cell (p := ⟨b, 1, none⟩) HC.out.2.2.2.2).trans HC.out.2.2.1)⟩; done)
    clear hK K
    (try simp only [Act.put, List.getElem_toArray, List.getElem_cons_zero, List.getElem_cons_succ, List.setIfInBounds_toArray, List.set_cons_zero, List.set_cons_succ])
    refine takeSome (i := 9) (v := ?_) (by decide +kernel) rfl (by rfl) (by decide +kernel) (by decide +kernel) (fun _ _ _ h => h) (by assumption) ?_ ?_
    rotate_left
    focus (intro w0 hSw; (try dsimp only at hSw); go_simp; (try (with_reducible rfl)); done)
    (try simp only [Act.put, List.getElem_toArray, List.getElem_cons_zero, List.getElem_cons_succ, List.setIfInBounds_toArray, List.set_cons_zero, List.set_cons_succ])
    refine wpAnyH_done (by decide +kernel) ?_ _
    have d04 := hHeld.1
    clear hHeld
    have HD14 : Hid (DkTo W w4 T (writeS (barrS st) (j : Int) (rootS (q, r))) gd) := Lib.hid (DkTo.low HB0.out (DkTo.trans HX1.out.1 HX1.out.2.1 (DkTo.low HB3.out HD4.out)))
    obtain ⟨ew, hew⟩ : ∃ x, Hid (writeE (barrS st) (j : Int) (rootS (q, r)) = x) := ⟨_, Lib.hid rfl⟩
    obtain ⟨s4, hs4⟩ : ∃ x, Hid (writeS (barrS st) (j : Int) (rootS (q, r)) = x) := ⟨_, Lib.hid rfl⟩
    have HEQ : Hid (setlE st q r = (if ew ≠ 0 then ew else barrE s4) ∧ setlS st q r = (if ew ≠ 0 then s4 else barrS s4)) := Lib.hid ⟨by unfold setlE; rw [heb.out, if_neg (by decide), hj.out, hew.out, hs4.out], by unfold setlS; rw [heb.out, if_neg (by decide), hj.out, hew.out, hs4.out]⟩
    rw [hs4.out] at HD14
    rw [hew.out]
    by_cases e4 : ew = 0
    · subst e4
      have HEQ2 : Hid (setlE st q r = barrE s4 ∧ setlS st q r = barrS s4) := Lib.hid HEQ.out
      obtain ⟨f4, T4, e4', k4⟩ := HD14.out
      have hl4 : s4.log.length ≤ 100000 := by
        rw [← hs4.out]
        have h1 := HLB.out
        unfold writeS
        split
        · omega
        · split
          · omega
          · split
            · rw [(burn_log _).1]; omega
            · show ((barrS st).log ++ [_]).length ≤ _
              rw [List.length_append, List.length_singleton]; omega
      have HBA2 := Lib.hid (Barrier_any k4 hl4)
      have HF4 := Lib.hid (And.intro f4 e4')
      clear f4 e4' k4 hl4
      go_wp2_with (go_at_call 55; refine HBA2.out.mono ?_; rintro e' w5 ⟨rfl, hd5⟩; have HD5 := Lib.hid hd5; clear hd5)
      go_ret
      exact ⟨by rw [HEQ2.out.1]; rfl, by rw [HEQ2.out.2]; exact DkTo.trans HF4.out.1 HF4.out.2 HD5.out⟩
    · have e4' : (ew != 0) = true := by rw [bne_iff_ne]; exact e4
      have HEQ2 : Hid (setlE st q r = ew ∧ setlS st q r = s4) := Lib.hid (by have := HEQ.out; rwa [if_pos e4, if_pos e4] at this)
      clear e4
      go_wp2_with fail
      go_ret
      exact ⟨by rw [HEQ2.out.1]; rfl, by rw [HEQ2.out.2]; exact HD14.out⟩
  · have e0' : (eb != 0) = true := by rw [bne_iff_ne]; exact e0
    have HEE : Hid (setlE st q r = eb ∧ setlS st q r = barrS st) := Lib.hid ⟨by unfold setlE; rw [heb.out, if_pos e0], by unfold setlS; rw [heb.out, if_pos e0]⟩
    clear e0
    go_enter Tryd.func36, Tryd.ntmps36
    go_wp2_with (go_at_call 55; refine HBA.out.mono ?_; rintro e' w1 ⟨rfl, hd1⟩; have HD1 := Lib.hid hd1; clear hd1)
    go_ret
    exact ⟨by rw [HEE.out.1]; rfl, by rw [HEE.out.2]; exact DkTo.low HB0.out HD1.out⟩
theorem Flip_nil (W : World) (r : Int) : Calls Tryd.prog 15 #[.pointer none, .int .i64 r] W fun e w' => e = .returned (.int .i64 1) ∧ w' = W := by
  have HF := Lib.hid (fault_none W none 0 0)
  go_enter Tryd.func15, Tryd.ntmps15
  go_wp2_with (go_at_call 27; refine HF.out.mono ?_; rintro e' wz ⟨rfl, hwz⟩; have hwz := hwz.symm; subst hwz)
  go_ret
  exact ⟨rfl, rfl⟩
set_option maxHeartbeats 2000000 in
theorem Flip_bad {W : World} {T : Nat → Prop} {st : DS} {ps : PS} {gd g gs : Nat} (h : Bo W T st ps gd g gs) (ho : st.out = false) (r : Int) (h0 : r ≠ 0) (hm : mayB ps.ts r st.sz = false) :
    Calls Tryd.prog 15 #[.pointer (some ⟨g, 0, none⟩), .int .i64 r] W fun e w' => e = .returned (.int .i64 1) ∧ w' = W := by
  obtain ⟨low, hp⟩ := h.pg
  have hm2 := mayBeRoot_any hp r
  rw [hm] at hm2
  have HM := Lib.hid hm2
  have HF := Lib.hid (fault_ok h ho)
  have h0' : (r != 0) = true := by rw [bne_iff_ne]; exact h0
  clear h ho h0 hm hm2 hp
  go_enter Tryd.func15, Tryd.ntmps15
  go_wp2_with (first | (go_at_call 27; refine HF.out.mono ?_; rintro e' wz ⟨rfl, hwz⟩; have hwz := hwz.symm; subst hwz) | (go_at_call 35; refine HM.out.mono ?_; rintro e' wz ⟨rfl, hwz⟩; have hwz := hwz.symm; subst hwz))
  go_ret
  exact ⟨rfl, rfl⟩
theorem PAt.last {W : World} {n : Nat} {ps : PS} {gd g gs low : Nat} (h : PAt W n ps gd g gs low) (q r : Nat) (hq : q ≤ 1000000000) (hr : r ≤ 65536) : PAt ((W.setCell ⟨g, 4, none⟩ (.int .i64 (q : Nat))).setCell ⟨g, 5, none⟩ (.int .i64 (r : Nat))) n ⟨ps.ts, q, r⟩ gd g gs low :=
  { len := h.len, n4 := h.n4, few := h.few, seq := hq, root := hr, lows := h.lows,
    blk := by
      have := blk_set (blk_set h.blk 4 (.int .i64 (q : Nat))) 5 (.int .i64 (r : Nat))
      simpa using this
    st := (RowKit.Below.heap_setCell _ _ _ _ (Ne.symm h.ne)).trans ((RowKit.Below.heap_setCell _ _ _ _ (Ne.symm h.ne)).trans h.st) }
theorem setl_two (st : DS) (q r : Nat) : setlE st q r = 0 ∨ setlE st q r ≠ 0 := by omega
theorem writeS_sz (st : DS) (i : Int) (bs : List UInt8) : (writeS st i bs).sz = st.sz := by
  unfold writeS
  split
  · rfl
  · split
    · rfl
    · split
      · exact burn_sz st
      · exact burn_sz st
theorem setlS_sz (st : DS) (q r : Nat) : (setlS st q r).sz = st.sz := by
  unfold setlS
  split
  · exact (barrS_log st).2
  · split
    · rw [writeS_sz, (barrS_log st).2]
    · rw [(barrS_log _).2, writeS_sz, (barrS_log st).2]
set_option maxHeartbeats 4000000 in
theorem Flip_ok {W : World} (hE : Env W) {T : Nat → Prop} {st : DS} {ps : PS} {gd g gs : Nat} (h : Bo W T st ps gd g gs) (ho : st.out = false) (r : Nat) (hr : r ≤ 65536) (hm : r = 0 ∨ mayB ps.ts (r : Int) st.sz = true) (hl : st.log.length ≤ 90000) (hN : ¬ T 0) (hq : ps.seq < 1000000000) (h0 : setlE st (ps.seq + 1) r = 0) :
    Calls Tryd.prog 15 #[.pointer (some ⟨g, 0, none⟩), .int .i64 (r : Nat)] W fun e w' => e = .returned (.int .i64 0) ∧ BoTo W w' T (setlS st (ps.seq + 1) r) ⟨flipL ps.ts, ps.seq + 1, r⟩ gd g gs := by
  obtain ⟨low, hp⟩ := h.pg
  have HMM : Hid ((r : Int) ≠ 0 → Calls Tryd.prog 35 #[.pointer (some ⟨g, 1, none⟩), .int .i64 (r : Nat)] W fun e w' => e = .returned (.bool true) ∧ w' = W) := Lib.hid fun e => by
    have := mayBeRoot_any hp (r : Int)
    rwa [show mayB ps.ts (r : Int) st.sz = true from hm.elim (fun e2 => absurd (by omega) e) id] at this
  have HF := Lib.hid (fault_ok h ho)
  have hb1 : Below W.heap.size W (W.alloc (Obj.cells #[.int .i64 ((ps.seq : Nat) + 1), .int .i64 (r : Nat)] 64 (0, 0))) := (Below.refl _ W).alloc (Nat.le_refl _) _
  have hn1 := heap_alloc_new W (Obj.cells #[.int .i64 ((ps.seq : Nat) + 1), .int .i64 (r : Nat)] 64 (0, 0))
  have hs1 := al_size W (Obj.cells #[.int .i64 ((ps.seq : Nat) + 1), .int .i64 (r : Nat)] 64 (0, 0))
  have hsq := hp.seq
  have hse := settleP_any (hE.on hb1) (h.grow hb1) hl (ps.seq + 1) r (by omega) hr hN
  have w1 : IntKind.i64.wrap ((ps.seq : Int) + 1) = (ps.seq : Int) + 1 := wrap_in (by omega) (by omega)
  have d4 := hp.d4
  have HP := Lib.hid hp
  have HH := Lib.hid h
  have HB1 := Lib.hid hb1
  have HN1 := Lib.hid (And.intro hn1 hs1)
  have HR := Lib.hid hr
  obtain ⟨ee, hee⟩ : ∃ x, Hid (setlE st (ps.seq + 1) r = x) := ⟨_, Lib.hid rfl⟩
  obtain ⟨ss, hss⟩ : ∃ x, Hid (setlS st (ps.seq + 1) r = x) := ⟨_, Lib.hid rfl⟩
  have HSZ : Hid (ss.sz = st.sz) := Lib.hid (by rw [← hss.out]; exact setlS_sz _ _ _)
  rw [hee.out, hss.out] at hse
  have HSE := Lib.hid hse
  rw [hss.out]
  rw [h0] at hee
  obtain rfl : (0 : Int) = ee := hee.out
  have HQ := Lib.hid hq
  have hc1 := fun (w1 : World) (hd1 : DkTo (W.alloc (Obj.cells #[.int .i64 ((ps.seq : Nat) + 1), .int .i64 (r : Nat)] 64 (0, 0))) w1 T ss gd) => (hd1.1.2 W.heap.size (by rw [hs1]; omega) (fun e => Nat.lt_irrefl _ (h.dk.ter _ e.1))).trans hn1
  have HC1 := Lib.hid hc1
  clear h ho hr hl hN hq h0 hp hb1 hn1 hs1 hsq hse hE hc1
  by_cases hr0 : (r : Int) = 0
  · have hr1 : ((r : Int) != 0) = false := by rw [hr0]; rfl
    clear hr0
    go_enter Tryd.func15, Tryd.ntmps15
    go_upto_region 10 with (first | (go_at_call 27; refine HF.out.mono ?_; rintro e' wz ⟨rfl, hwz⟩; have hwz := hwz.symm; subst hwz) | (go_at_call 35; refine (HMM.out (by assumption)).mono ?_; rintro e' wz ⟨rfl, hwz⟩; have hwz := hwz.symm; subst hwz) | (go_at_call 36; refine HSE.out.mono ?_; rintro e' w1 ⟨rfl, hd1⟩; have HD1 := Lib.hid hd1; have hbx := HC1.out _ hd1; have c0 := blk_cell hbx 0; have c1 := blk_cell hbx 1; have hp1 := pat_disk hd1 (HH.out.grow HB1.out) (HP.out.fr (Fr.of (F := fun _ => False) HB1.out) id id); have d40 := hp1.d4; have d50 := hp1.d5; have fz := hp1.fz; have HP2 := Lib.hid (hp1.last (ps.seq + 1) r (by have := HQ.out; omega) HR.out); have HP1 := Lib.hid hp1; clear hd1 hbx hp1))
    have HFT := Lib.hid (flipT_any HP2.out)
    rw [show (((ps.seq + 1 : Nat) : Int)) = (ps.seq : Int) + 1 from rfl] at HFT HP2
    go_wp2_with (go_at_call 37; refine HFT.out.mono ?_; rintro e' w3 ⟨rfl, hf3, lw3, hp3⟩; have HF3 := Lib.hid (And.intro hf3 hp3); clear hf3 hp3)
    go_ret
    refine ⟨rfl, bo_comp HH.out (Fr.of HB1.out) (HH.out.grow HB1.out) HD1.out (tb_t (tb_t tb_g tb_g) HF3.out.1) (by rw [HSZ.out]; exact HF3.out.2)⟩
  · have hr1 : ((r : Int) != 0) = true := by rw [bne_iff_ne]; exact hr0
    go_enter Tryd.func15, Tryd.ntmps15
    go_upto_region 10 with (first | (go_at_call 27; refine HF.out.mono ?_; rintro e' wz ⟨rfl, hwz⟩; have hwz := hwz.symm; subst hwz) | (go_at_call 35; refine (HMM.out (by assumption)).mono ?_; rintro e' wz ⟨rfl, hwz⟩; have hwz := hwz.symm; subst hwz) | (go_at_call 36; refine HSE.out.mono ?_; rintro e' w1 ⟨rfl, hd1⟩; have HD1 := Lib.hid hd1; have hbx := HC1.out _ hd1; have c0 := blk_cell hbx 0; have c1 := blk_cell hbx 1; have hp1 := pat_disk hd1 (HH.out.grow HB1.out) (HP.out.fr (Fr.of (F := fun _ => False) HB1.out) id id); have d40 := hp1.d4; have d50 := hp1.d5; have fz := hp1.fz; have HP2 := Lib.hid (hp1.last (ps.seq + 1) r (by have := HQ.out; omega) HR.out); have HP1 := Lib.hid hp1; clear hd1 hbx hp1))
    have HFT := Lib.hid (flipT_any HP2.out)
    rw [show (((ps.seq + 1 : Nat) : Int)) = (ps.seq : Int) + 1 from rfl] at HFT HP2
    go_wp2_with (go_at_call 37; refine HFT.out.mono ?_; rintro e' w3 ⟨rfl, hf3, lw3, hp3⟩; have HF3 := Lib.hid (And.intro hf3 hp3); clear hf3 hp3)
    go_ret
    refine ⟨rfl, bo_comp HH.out (Fr.of HB1.out) (HH.out.grow HB1.out) HD1.out (tb_t (tb_t tb_g tb_g) HF3.out.1) (by rw [HSZ.out]; exact HF3.out.2)⟩
set_option maxHeartbeats 4000000 in
theorem Flip_down {W : World} (hE : Env W) {T : Nat → Prop} {st : DS} {ps : PS} {gd g gs : Nat} (h : Bo W T st ps gd g gs) (ho : st.out = false) (r : Nat) (hr : r ≤ 65536) (hm : r = 0 ∨ mayB ps.ts (r : Int) st.sz = true) (hl : st.log.length ≤ 90000) (hN : ¬ T 0) (hq : ps.seq < 1000000000) (h0 : setlE st (ps.seq + 1) r = 15) :
    Calls Tryd.prog 15 #[.pointer (some ⟨g, 0, none⟩), .int .i64 (r : Nat)] W fun e w' => e = .returned (.int .i64 15) ∧ DnTo W w' T (setlS st (ps.seq + 1) r) gd g gs := by
  obtain ⟨low, hp⟩ := h.pg
  have HMM : Hid ((r : Int) ≠ 0 → Calls Tryd.prog 35 #[.pointer (some ⟨g, 1, none⟩), .int .i64 (r : Nat)] W fun e w' => e = .returned (.bool true) ∧ w' = W) := Lib.hid fun e => by
    have := mayBeRoot_any hp (r : Int)
    rwa [show mayB ps.ts (r : Int) st.sz = true from hm.elim (fun e2 => absurd (by omega) e) id] at this
  have HF := Lib.hid (fault_ok h ho)
  have hb1 : Below W.heap.size W (W.alloc (Obj.cells #[.int .i64 ((ps.seq : Nat) + 1), .int .i64 (r : Nat)] 64 (0, 0))) := (Below.refl _ W).alloc (Nat.le_refl _) _
  have hn1 := heap_alloc_new W (Obj.cells #[.int .i64 ((ps.seq : Nat) + 1), .int .i64 (r : Nat)] 64 (0, 0))
  have hs1 := al_size W (Obj.cells #[.int .i64 ((ps.seq : Nat) + 1), .int .i64 (r : Nat)] 64 (0, 0))
  have hsq := hp.seq
  have hse := settleP_any (hE.on hb1) (h.grow hb1) hl (ps.seq + 1) r (by omega) hr hN
  have w1 : IntKind.i64.wrap ((ps.seq : Int) + 1) = (ps.seq : Int) + 1 := wrap_in (by omega) (by omega)
  have d4 := hp.d4
  have HP := Lib.hid hp
  have HH := Lib.hid h
  have HB1 := Lib.hid hb1
  have HN1 := Lib.hid (And.intro hn1 hs1)
  have HR := Lib.hid hr
  obtain ⟨ee, hee⟩ : ∃ x, Hid (setlE st (ps.seq + 1) r = x) := ⟨_, Lib.hid rfl⟩
  obtain ⟨ss, hss⟩ : ∃ x, Hid (setlS st (ps.seq + 1) r = x) := ⟨_, Lib.hid rfl⟩
  have HSZ : Hid (ss.sz = st.sz) := Lib.hid (by rw [← hss.out]; exact setlS_sz _ _ _)
  rw [hee.out, hss.out] at hse
  have HSE := Lib.hid hse
  rw [hss.out]
  rw [h0] at hee
  obtain rfl : (15 : Int) = ee := hee.out
  clear h ho hr hl hN hq h0 hp hb1 hn1 hs1 hsq hse hE
  by_cases hr0 : (r : Int) = 0
  · have hr1 : ((r : Int) != 0) = false := by rw [hr0]; rfl
    clear hr0
    go_enter Tryd.func15, Tryd.ntmps15
    go_wp2_with (first | (go_at_call 27; refine HF.out.mono ?_; rintro e' wz ⟨rfl, hwz⟩; have hwz := hwz.symm; subst hwz) | (go_at_call 35; refine (HMM.out (by assumption)).mono ?_; rintro e' wz ⟨rfl, hwz⟩; have hwz := hwz.symm; subst hwz) | (go_at_call 36; refine HSE.out.mono ?_; rintro e' w1 ⟨rfl, hd1⟩; have HD1 := Lib.hid hd1; have hp1 := pat_disk hd1 (HH.out.grow HB1.out) (HP.out.fr (Fr.of (F := fun _ => False) HB1.out) id id); have HTD := Lib.hid (told_down hp1); clear hd1 hp1) | (go_at_call 31; refine HTD.out.mono ?_; rintro e' w4 ⟨rfl, hf4⟩; have HF4 := Lib.hid hf4; clear hf4))
    go_ret
    exact ⟨rfl, dn_comp HH.out (Fr.of HB1.out) (HH.out.grow HB1.out) HD1.out HF4.out⟩
  · have hr1 : ((r : Int) != 0) = true := by rw [bne_iff_ne]; exact hr0
    go_enter Tryd.func15, Tryd.ntmps15
    go_wp2_with (first | (go_at_call 27; refine HF.out.mono ?_; rintro e' wz ⟨rfl, hwz⟩; have hwz := hwz.symm; subst hwz) | (go_at_call 35; refine (HMM.out (by assumption)).mono ?_; rintro e' wz ⟨rfl, hwz⟩; have hwz := hwz.symm; subst hwz) | (go_at_call 36; refine HSE.out.mono ?_; rintro e' w1 ⟨rfl, hd1⟩; have HD1 := Lib.hid hd1; have hp1 := pat_disk hd1 (HH.out.grow HB1.out) (HP.out.fr (Fr.of (F := fun _ => False) HB1.out) id id); have HTD := Lib.hid (told_down hp1); clear hd1 hp1) | (go_at_call 31; refine HTD.out.mono ?_; rintro e' w4 ⟨rfl, hf4⟩; have HF4 := Lib.hid hf4; clear hf4))
    go_ret
    exact ⟨rfl, dn_comp HH.out (Fr.of HB1.out) (HH.out.grow HB1.out) HD1.out HF4.out⟩
end Go.Proofs.YtfjiceoagenfnaaDoor
