/- Layer sector, the law's own: an act on both disks. -/
import Derived.Test.YtngfffbnofejmaaSDat
namespace Go.Proofs.Ytngfffbnofejmaa
open Go.RowKit Go.Lib Go.ChangeMaps Go.MapKept

/-- An act. -/
structure AV where
  kind : Int
  pos : Int
  fill : UInt8
  odd : Bool
  mask : Nat
def AV.ok (a : AV) : Prop := In64 a.pos ∧ a.mask < 18446744073709551616
/-- What an act makes of a disk. -/
def actS (st : DS) (a : AV) : DS := if a.kind = 2 then writeS st a.pos (dataL a.fill a.odd) else if a.kind = 3 then barrS st else if a.kind = 4 then limS st a.pos else if a.kind = 5 then crashS st a.mask else st
/-- Both disks, apart. -/
structure Both (W : World) (T R : Nat → Prop) (st su : DS) (g r : Nat) : Prop where
  d : Dk W T st g
  w : Rk W R su r
  ap : Apart T R
def BothTo (W W' : World) (T R : Nat → Prop) (st su : DS) (g r : Nat) : Prop := Fr (fun k => NB W T k ∨ NB W R k) W W' ∧ ∃ T' R', Ext W T T' ∧ Ext W R R' ∧ Both W' T' R' st su g r
theorem Both.grow {W W' : World} {T R : Nat → Prop} {st su : DS} {g r : Nat} (h : Both W T R st su g r) (hb : Below W.heap.size W W') : Both W' T R st su g r :=
  ⟨h.d.grow hb (fun _ h => h) (h.d.ter.on hb.size), h.w.grow hb (fun _ h => h) (h.w.ter.on hb.size), h.ap⟩
theorem BothTo.refl {W : World} {T R : Nat → Prop} {st su : DS} {g r : Nat} (h : Both W T R st su g r) : BothTo W W T R st su g r := ⟨Fr.refl _ _, T, R, Ext.refl _ _, Ext.refl _ _, h⟩
theorem Fr.nb2 {W W1 W2 : World} {T R T1 R1 : Nat → Prop} (h1 : Fr (fun k => NB W T k ∨ NB W R k) W W1) (he : Ext W T T1) (hr : Ext W R R1) (h2 : Fr (fun k => NB W1 T1 k ∨ NB W1 R1 k) W1 W2) : Fr (fun k => NB W T k ∨ NB W R k) W W2 :=
  h1.trans h2 (fun k hk e => by
    have key : ¬ ByteB W1 k → ¬ ByteB W k := fun hn hb => hn (by
      obtain ⟨cs, fr, hh⟩ := hb
      exact ⟨cs, fr, (h1.2 k hk (fun e2 => e2.elim (fun e2 => e2.2 ⟨cs, fr, hh⟩) (fun e2 => e2.2 ⟨cs, fr, hh⟩))).trans hh⟩)
    rcases e with e | e
    · exact .inl ⟨(he.2 k e.1).elim id (fun e => by omega), key e.2⟩
    · exact .inr ⟨(hr.2 k e.1).elim id (fun e => by omega), key e.2⟩)
theorem BothTo.trans {W W1 W2 : World} {T R : Nat → Prop} {st su st' su' : DS} {g r : Nat} (h1 : BothTo W W1 T R st' su' g r) (h2 : ∀ T1 R1, Ext W T T1 → Ext W R R1 → Both W1 T1 R1 st' su' g r → BothTo W1 W2 T1 R1 st su g r) : BothTo W W2 T R st su g r := by
  obtain ⟨f1, T1, R1, e1, e2, hb⟩ := h1
  obtain ⟨f2, T2, R2, e3, e4, hb2⟩ := h2 T1 R1 e1 e2 hb
  exact ⟨f1.nb2 e1 e2 f2, T2, R2, e1.trans e3 f1.1.size, e2.trans e4 f1.1.size, hb2⟩
theorem BothTo.below {W W1 W2 : World} {T R : Nat → Prop} {st su : DS} {g r : Nat} (h : Below W.heap.size W W1) (h2 : BothTo W1 W2 T R st su g r) : BothTo W W2 T R st su g r := by
  obtain ⟨f2, T2, R2, e3, e4, hb2⟩ := h2
  refine ⟨(Fr.of (F := fun k => NB W T k ∨ NB W R k) h).trans f2 (fun k hk e => ?_), T2, R2, ⟨e3.1, fun k e => (e3.2 k e).imp id (fun e => by have := h.size; omega)⟩, ⟨e4.1, fun k e => (e4.2 k e).imp id (fun e => by have := h.size; omega)⟩, hb2⟩
  have key : ¬ ByteB W1 k → ¬ ByteB W k := fun hn hb => hn (by
    obtain ⟨cs, fr, hh⟩ := hb
    exact ⟨cs, fr, (h.block k hk).trans hh⟩)
  exact e.imp (fun e => ⟨e.1, key e.2⟩) (fun e => ⟨e.1, key e.2⟩)
theorem BothTo.comp {W W1 W2 : World} {T R T1 R1 : Nat → Prop} {st su : DS} {g r : Nat} (f1 : Fr (fun k => NB W T k ∨ NB W R k) W W1) (et : Ext W T T1) (er : Ext W R R1) (h2 : BothTo W1 W2 T1 R1 st su g r) : BothTo W W2 T R st su g r := by
  obtain ⟨f2, T2, R2, e3, e4, hb2⟩ := h2
  exact ⟨f1.nb2 et er f2, T2, R2, et.trans e3 f1.1.size, er.trans e4 f1.1.size, hb2⟩
/-- An operation of the one disk; of the other. -/
theorem Both.stepD {W W' : World} {T R : Nat → Prop} {st su st' : DS} {g r : Nat} (h : Both W T R st su g r) (hd : DkTo W W' T st' g) : BothTo W W' T R st' su g r := by
  obtain ⟨f, T', e, hd⟩ := hd
  exact ⟨f.mono (fun k _ e => .inl e), T', R, e, Ext.refl _ _, hd, h.w.fr f (fun k hr e => h.ap k e.1 hr), h.ap.ext e h.w.ter⟩
theorem Both.stepW {W W' : World} {T R : Nat → Prop} {st su su' : DS} {g r : Nat} (h : Both W T R st su g r) (hw : RkTo W W' R su' r) : BothTo W W' T R st su' g r := by
  obtain ⟨f, R', e, hw⟩ := hw
  exact ⟨f.mono (fun k _ e => .inr e), T, R', Ext.refl _ _, e, h.d.fr f (fun k ht e => h.ap k ht e.1), hw, (h.ap.symm.ext e h.d.ter).symm⟩
/-- Blocks outside stay as they are. -/
theorem BothTo.keep {W W' : World} {T R : Nat → Prop} {st su : DS} {g r k : Nat} (h : BothTo W W' T R st su g r) (hk : k < W.heap.size) (hT : ¬ T k) (hR : ¬ R k) : W'.heap[k]? = W.heap[k]? :=
  h.1.2 k hk (fun e => e.elim (fun e => hT e.1) (fun e => hR e.1))
theorem BothTo.both {W W' : World} {T R : Nat → Prop} {st su : DS} {g r : Nat} (h : BothTo W W' T R st su g r) : ∃ T' R', Ext W T T' ∧ Ext W R R' ∧ Both W' T' R' st su g r := h.2
theorem conv_row {w0 W : World} {v : Value} {l : List UInt8} (h : BRow w0 v l W) : (convert 43 9 v).run Try.prog W = .ok (.string ⟨l.toArray⟩) W := by
  obtain ⟨A, c, rfl, hB, -⟩ := h.at
  exact conv_str hB
theorem row_arg {w0 W : World} {v : Value} {l : List UInt8} (h : BRow w0 v l W) : ∃ A c, v = .slice A l.length c ∧ BytesAt W A l.length l ∧ ∀ ad, A = some ad → w0.heap.size ≤ ad.block ∧ ad.block < W.heap.size := by
  obtain ⟨A, c, e, hB, hk, -⟩ := h.at
  exact ⟨A, c, e, hB, hk⟩
set_option maxRecDepth 10000 in
set_option maxHeartbeats 4000000 in
theorem act_any {W : World} {T R : Nat → Prop} {st su : DS} {g r : Nat} (h : Both W T R st su g r) (hn : st.log.length ≤ 50000) (hm : su.log.length ≤ 50000) (a : AV) (ha : a.ok) :
    Calls Try.prog 11 #[.pointer (some ⟨g, 0, none⟩), .pointer (some ⟨r, 0, none⟩), .agg #[.int .i64 a.kind, .int .i64 a.pos, .int .u8 (a.fill.toNat : Nat), .bool a.odd, .int .u64 (a.mask : Nat)]] W fun e w' => ∃ b, e = .returned (.bool b) ∧ (st = su → b = true) ∧ BothTo W w' T R (actS st a) (actS su a) g r := by
  obtain ⟨kd, ps, fl, od, mk⟩ := a
  have hb := Below.alloc (Below.refl W.heap.size W) (Nat.le_refl _) (Obj.cells #[.int .i64 kd, .int .i64 ps, .int .u8 (fl.toNat : Nat), .bool od, .int .u64 (mk : Nat)] 34 (0, 0))
  have hnew := heap_alloc_new W (Obj.cells #[.int .i64 kd, .int .i64 ps, .int .u8 (fl.toNat : Nat), .bool od, .int .u64 (mk : Nat)] 34 (0, 0))
  have h1 := h.grow hb
  obtain ⟨u, hu⟩ : ∃ u, W.alloc (Obj.cells #[.int .i64 kd, .int .i64 ps, .int .u8 (fl.toNat : Nat), .bool od, .int .u64 (mk : Nat)] 34 (0, 0)) = u := ⟨_, rfl⟩
  obtain ⟨bx, hbx⟩ : ∃ bx, W.heap.size = bx := ⟨_, rfl⟩
  rw [hu] at hb hnew h1
  rw [hbx] at hnew
  have HB := Lib.hid hb
  have HX := Lib.hid hnew
  have HBT := Lib.hid h1
  have HN := Lib.hid hn
  have HM := Lib.hid hm
  have HA := Lib.hid ha
  have HTX : Hid (¬ T bx ∧ ¬ R bx) := Lib.hid ⟨fun e => by have := h.d.ter _ e; omega, fun e => by have := h.w.ter _ e; omega⟩
  have k0 : u.cell? ⟨bx, 0, none⟩ = some (.int .i64 kd) := blk_cell hnew 0
  have k1 : u.cell? ⟨bx, 1, none⟩ = some (.int .i64 ps) := blk_cell hnew 1
  have k2 : u.cell? ⟨bx, 2, none⟩ = some (.int .u8 (fl.toNat : Nat)) := blk_cell hnew 2
  have k3 : u.cell? ⟨bx, 3, none⟩ = some (.bool od) := blk_cell hnew 3
  have k4 : u.cell? ⟨bx, 4, none⟩ = some (.int .u64 (mk : Nat)) := blk_cell hnew 4
  have KX : Hid (∀ W' s s', BothTo u W' T R s s' g r → ∀ i, W'.cell? ⟨bx, i, none⟩ = u.cell? ⟨bx, i, none⟩) := Lib.hid fun W' s s' h i => World.cell?_of_block (w := u) (a := ⟨bx, i, none⟩) (h.keep (blk_lt hnew) HTX.out.1 HTX.out.2)
  clear h hb hnew h1 hn hm ha
  by_cases q1 : kd = 1
  · subst q1
    have HR1 := Lib.hid (Read_any HBT.out.d ps HA.out.1)
    go_enter Try.func11, Try.ntmps11
    go_upto_region 5 with (first | (go_at_call 16; refine HR1.out.mono ?_; rintro e' w1 ⟨v1, rfl, hr1⟩; have HV1 := Lib.hid hr1; have e1 := (hr1.1.cell (p := ⟨bx, 1, none⟩) (blk_lt HX.out)).trans k1; have HB1 := Lib.hid (HBT.out.grow hr1.1); have HR2 := Lib.hid (RRead_any HB1.out.w (by have := HM.out; omega) ps); clear hr1) | (go_at_call 28; refine HR2.out.mono ?_; rintro e' w2 ⟨v2, rfl, hr2⟩; have HV2 := Lib.hid hr2; clear hr2))
    have hc1 := conv_row (HV1.out.on HV2.out.1)
    have hc2 := conv_row HV2.out
    have HBF := Lib.hid (HV1.out.1.trans (HV2.out.1.mono HV1.out.1.size))
    obtain ⟨s1, hs1⟩ : ∃ s, (⟨(readS st ps).toArray⟩ : ByteArray) = s := ⟨_, rfl⟩
    obtain ⟨s2, hs2⟩ : ∃ s, (⟨(readS su ps).toArray⟩ : ByteArray) = s := ⟨_, rfl⟩
    rw [hs1] at hc1
    rw [hs2] at hc2
    have HQ := Lib.hid (show st = su → s1 = s2 from fun e => by rw [← hs1, ← hs2, e])
    have HS : Hid (∀ s : DS, actS s ⟨1, ps, fl, od, mk⟩ = s) := Lib.hid fun s => rfl
    obtain ⟨z1, hz1⟩ : ∃ z, Hid (readE st ps = z) := ⟨_, Lib.hid rfl⟩
    obtain ⟨z2, hz2⟩ : ∃ z, Hid (readE su ps = z) := ⟨_, Lib.hid rfl⟩
    rw [hz1.out, hz2.out]
    clear hs1 hs2
    cases hq : (s1.toList == s2.toList)
    · have HQ2 := Lib.hid (show ¬ st = su from fun e => by
        rw [HQ.out e] at hq
        rw [beq_self_eq_true] at hq
        cases hq)
      go_wp2_with fail
      go_ret
      rw [HS.out, HS.out]
      exact ⟨false, rfl, fun e => absurd e HQ2.out, BothTo.below HB.out (BothTo.below HBF.out (BothTo.refl (HBT.out.grow HBF.out)))⟩
    · go_wp2_with fail
      go_ret
      rw [HS.out, HS.out]
      exact ⟨z1 == z2, rfl, fun e => by rw [← hz1.out, ← hz2.out, e]; exact beq_self_eq_true _, BothTo.below HB.out (BothTo.below HBF.out (BothTo.refl (HBT.out.grow HBF.out)))⟩
  by_cases q2 : kd = 2
  · subst q2
    have hbu : Below u.heap.size u u.drew := (Below.refl _ u).drew
    have hbt0 := HBT.out.grow hbu
    have hk : u.drew.cell? ⟨bx, 1, none⟩ = some (.int .i64 ps) ∧ u.drew.cell? ⟨bx, 2, none⟩ = some (.int .u8 (fl.toNat : Nat)) ∧ u.drew.cell? ⟨bx, 3, none⟩ = some (.bool od) := ⟨k1, k2, k3⟩
    have hxd : u.drew.heap[bx]? = _ := HX.out
    have HSZ := Lib.hid (dataL_len fl od)
    obtain ⟨q, hq⟩ : ∃ q, Hid ((dataL fl od).length = q) := ⟨_, Lib.hid rfl⟩
    clear q1 k4
    go_enter Try.func11, Try.ntmps11
    go_upto_region 7 with (fail)
    obtain ⟨y, hy⟩ : ∃ y, u.drew = y := ⟨_, rfl⟩
    rw [hy] at hbu hbt0 hk hxd
    have HBU := Lib.hid hbu
    have HB0 := Lib.hid hbt0
    have HKS := Lib.hid hk
    have HXD := Lib.hid hxd
    have KS : Hid (∀ W' : World, W'.heap[bx]? = y.heap[bx]? → W'.cell? ⟨bx, 1, none⟩ = some (.int .i64 ps) ∧ W'.cell? ⟨bx, 2, none⟩ = some (.int .u8 (fl.toNat : Nat)) ∧ W'.cell? ⟨bx, 3, none⟩ = some (.bool od)) := Lib.hid fun W' e =>
      have hh := fun i => World.cell?_of_block (w := y) (w' := W') (a := ⟨bx, i, none⟩) e
      ⟨(hh 1).trans HKS.out.1, (hh 2).trans HKS.out.2.1, (hh 3).trans HKS.out.2.2⟩
    have HDA := Lib.hid (data_any y fl od)
    clear hbu hbt0 hk hxd k0 k1 k2 k3
    refine wp_region_held_drew (S := fun W => W.cell? ⟨bx, 1, none⟩ = some (.int .i64 ps) ∧ W.cell? ⟨bx, 2, none⟩ = some (.int .u8 (fl.toNat : Nat)) ∧ W.cell? ⟨bx, 3, none⟩ = some (.bool od)) (by kernel_rfl) ?_ (fun hHeld => ?_)
    · (try dsimp only)
      (try rw [hu])
      rw [hy]
      exact HKS.out
    (try rw [hu] at hHeld ⊢)
    rw [hy] at hHeld ⊢
    clear hy hu
    refine takeSome (i := 0) (v := ?_) (by decide +kernel) rfl (by rfl) (by decide +kernel) (by decide +kernel) (fun _ _ _ h => h) (by assumption) ?_ ?_
    rotate_left
    focus (intro w0 hSw; (try dsimp only at hSw); go_simp; (try (with_reducible rfl)); done)
    (try simp only [Act.put, List.getElem_toArray, List.getElem_cons_zero, List.setIfInBounds_toArray, List.set_cons_zero, List.set_cons_succ])
    refine takeSome (i := 1) (v := ?_) (by decide +kernel) rfl (by rfl) (by decide +kernel) (by decide +kernel) (fun _ _ _ h => h) (by assumption) ?_ ?_
    rotate_left
    focus (intro w0 hSw; (try dsimp only at hSw); go_simp; (try (with_reducible rfl)); done)
    (try simp only [Act.put, List.getElem_toArray, List.getElem_cons_zero, List.getElem_cons_succ, List.setIfInBounds_toArray, List.set_cons_zero, List.set_cons_succ])
    refine takeSome (i := 2) (v := ?_) (by decide +kernel) rfl (by rfl) (by decide +kernel) (by decide +kernel) (fun _ _ _ h => h) (by assumption) ?_ ?_
    rotate_left
    focus (intro w0 hSw; (try dsimp only at hSw); go_simp; (try (with_reducible rfl)); done)
    (try simp only [Act.put, List.getElem_toArray, List.getElem_cons_zero, List.getElem_cons_succ, List.setIfInBounds_toArray, List.set_cons_zero, List.set_cons_succ])
    refine takeSome (i := 3) (v := ?_) (by decide +kernel) rfl (by rfl) (by decide +kernel) (by decide +kernel) (fun _ _ _ h => h) (by assumption) ?_ ?_
    rotate_left
    focus (intro w0 hSw; (try dsimp only at hSw); go_simp; (try (with_reducible rfl)); done)
    (try simp only [Act.put, List.getElem_toArray, List.getElem_cons_zero, List.getElem_cons_succ, List.setIfInBounds_toArray, List.set_cons_zero, List.set_cons_succ])
    refine takeSome (i := 4) (v := ?_) (by decide +kernel) rfl (by rfl) (by decide +kernel) (by decide +kernel) (fun _ _ _ h => h) (by assumption) ?_ ?_
    rotate_left
    focus (intro w0 hSw; (try dsimp only at hSw); go_simp; (try (with_reducible rfl)); done)
    (try simp only [Act.put, List.getElem_toArray, List.getElem_cons_zero, List.getElem_cons_succ, List.setIfInBounds_toArray, List.set_cons_zero, List.set_cons_succ])
    refine takeSome (i := 5) (v := ?_) (by decide +kernel) rfl (by rfl) (by decide +kernel) (by decide +kernel) (fun _ _ _ h => h) (by assumption) ?_ ?_
    rotate_left
    focus (intro w0 hSw; (try dsimp only at hSw); go_simp; (try (with_reducible rfl)); done)
    (try simp only [Act.put, List.getElem_toArray, List.getElem_cons_zero, List.getElem_cons_succ, List.setIfInBounds_toArray, List.set_cons_zero, List.set_cons_succ])
    refine takeSome (i := 6) (v := ?_) (by decide +kernel) rfl (by rfl) (by decide +kernel) (by decide +kernel) (fun _ _ _ h => h) (by assumption) ?_ ?_
    rotate_left
    focus (intro w0 hSw; (try dsimp only at hSw); go_simp; (try (with_reducible rfl)); done)
    (try simp only [Act.put, List.getElem_toArray, List.getElem_cons_zero, List.getElem_cons_succ, List.setIfInBounds_toArray, List.set_cons_zero, List.set_cons_succ])
    refine takeSome (i := 9) (v := ?_) (by decide +kernel) rfl (by rfl) (by decide +kernel) (by decide +kernel) (fun _ _ _ h => h) (by assumption) ?_ ?_
    rotate_left
    focus (intro w0 hSw; (try dsimp only at hSw); go_simp; (try (with_reducible rfl)); done)
    (try simp only [Act.put, List.getElem_toArray, List.getElem_cons_zero, List.getElem_cons_succ, List.setIfInBounds_toArray, List.set_cons_zero, List.set_cons_succ])
    refine takeSome (i := 10) (v := ?_) (by decide +kernel) rfl (by rfl) (by decide +kernel) (by decide +kernel) (fun _ _ _ h => h) (by assumption) ?_ ?_
    rotate_left
    focus (intro w0 hSw; (try dsimp only at hSw); go_simp; (try (with_reducible rfl)); done)
    (try simp only [Act.put, List.getElem_toArray, List.getElem_cons_zero, List.getElem_cons_succ, List.setIfInBounds_toArray, List.set_cons_zero, List.set_cons_succ])
    refine takeSome (i := 11) (v := ?_) (by decide +kernel) rfl (by rfl) (by decide +kernel) (by decide +kernel) (fun _ _ _ h => h) (by assumption) ?_ ?_
    rotate_left
    focus (intro w0 hSw; (try dsimp only at hSw); go_simp; (try (with_reducible rfl)); done)
    (try simp only [Act.put, List.getElem_toArray, List.getElem_cons_zero, List.getElem_cons_succ, List.setIfInBounds_toArray, List.set_cons_zero, List.set_cons_succ])
    refine takeSome (i := 12) (v := ?_) (by decide +kernel) rfl (by rfl) (by decide +kernel) (by decide +kernel) (fun _ _ _ h => h) (by assumption) ?_ ?_
    rotate_left
    focus (intro w0 hSw; (try dsimp only at hSw); go_simp; (try (with_reducible rfl)); done)
    (try simp only [Act.put, List.getElem_toArray, List.getElem_cons_zero, List.getElem_cons_succ, List.setIfInBounds_toArray, List.set_cons_zero, List.set_cons_succ])
    refine takeSome (i := 13) (v := ?_) (by decide +kernel) rfl (by rfl) (by decide +kernel) (by decide +kernel) (fun _ _ _ h => h) (by assumption) ?_ ?_
    rotate_left
    focus (intro w0 hSw; (try dsimp only at hSw); go_simp; (try (with_reducible rfl)); done)
    (try simp only [Act.put, List.getElem_toArray, List.getElem_cons_zero, List.getElem_cons_succ, List.setIfInBounds_toArray, List.set_cons_zero, List.set_cons_succ])
    refine takeSome (i := 14) (v := ?_) (by decide +kernel) rfl (by rfl) (by decide +kernel) (by decide +kernel) (fun _ _ _ h => h) (by assumption) ?_ ?_
    rotate_left
    focus (intro w0 hSw; (try dsimp only at hSw); go_simp; (try (with_reducible rfl)); done)
    (try simp only [Act.put, List.getElem_toArray, List.getElem_cons_zero, List.getElem_cons_succ, List.setIfInBounds_toArray, List.set_cons_zero, List.set_cons_succ])
    refine takeSome (i := 15) (v := ?_) (by decide +kernel) rfl (by rfl) (by decide +kernel) (by decide +kernel) (fun _ _ _ h => h) (by assumption) ?_ ?_
    rotate_left
    focus (intro w0 hSw; (try dsimp only at hSw); go_simp; (try (with_reducible rfl)); done)
    (try simp only [Act.put, List.getElem_toArray, List.getElem_cons_zero, List.getElem_cons_succ, List.setIfInBounds_toArray, List.set_cons_zero, List.set_cons_succ])
    refine wpAnyH_ready (rs := [7]) (by decide +kernel) (by simp) ?_
    refine AllReadyH.cons rfl (fun K hK => ?_) AllReadyH.nil
    (try simp only [List.getElem_toArray, List.getElem_cons_zero, List.getElem_cons_succ])
    go_simp
    (go_at_call 21; refine HDA.out.mono ?_; rintro e' w1 ⟨v1, rfl, hv1⟩; have HV1 := Lib.hid hv1; have hx1 := Lib.hid (hv1.1.block bx (blk_lt HXD.out)))
    refine hK.out _ _ ?_ (fun hHeld => ?_)
    focus ((try dsimp only); exact KS.out _ hx1.out; done)
    clear hK K
    (try simp only [Act.put, List.getElem_toArray, List.getElem_cons_zero, List.getElem_cons_succ, List.setIfInBounds_toArray, List.set_cons_zero, List.set_cons_succ])
    have hb1 := HB0.out.grow HV1.out.1
    have HBX1 := Lib.hid hb1
    obtain ⟨A1, c1, ev, hba, hbk⟩ := row_arg HV1.out
    rw [hq.out] at ev
    subst ev
    have hw1 := Write_any (c := c1) hb1.d (by have := HN.out; omega) ps hba (fun ad e => ⟨(hbk ad e).2, fun e2 => by have := HB0.out.d.ter _ e2; have := (hbk ad e).1; omega⟩)
    rw [hq.out] at hw1
    have HW1 := Lib.hid hw1
    clear hb1 hba hbk hw1
    refine wpAnyH_ready (rs := [8]) (by decide +kernel) (by simp) ?_
    refine AllReadyH.cons rfl (fun K hK => ?_) AllReadyH.nil
    (try simp only [List.getElem_toArray, List.getElem_cons_zero, List.getElem_cons_succ])
    go_simp
    (go_at_call 22; refine HW1.out.mono ?_; rintro e' w2 ⟨rfl, hd⟩; have HD1 := Lib.hid (HBX1.out.stepD hd); have hx2 := Lib.hid ((HD1.out.keep (Nat.lt_of_lt_of_le (blk_lt HXD.out) HV1.out.1.size) HTX.out.1 HTX.out.2).trans hx1.out))
    refine hK.out _ _ ?_ (fun hHeld => ?_)
    focus ((try dsimp only); exact KS.out _ hx2.out; done)
    clear hK K
    (try simp only [Act.put, List.getElem_toArray, List.getElem_cons_zero, List.getElem_cons_succ, List.setIfInBounds_toArray, List.set_cons_zero, List.set_cons_succ])
    obtain ⟨T1, R1, et1, er1, hb1⟩ := HD1.out.both
    have HB1 := Lib.hid hb1
    have ET1 := Lib.hid et1
    have ER1 := Lib.hid er1
    have HDB := Lib.hid (data_any w2 fl od)
    clear et1 er1 hb1
    refine wpAnyH_ready (rs := [16]) (by decide +kernel) (by simp) ?_
    refine AllReadyH.cons rfl (fun K hK => ?_) AllReadyH.nil
    (try simp only [List.getElem_toArray, List.getElem_cons_zero, List.getElem_cons_succ])
    go_simp
    (go_at_call 21; refine HDB.out.mono ?_; rintro e' w3 ⟨v3, rfl, hv3⟩; have HV3 := Lib.hid hv3; have hx3 := Lib.hid ((hv3.1.block bx (Nat.lt_of_lt_of_le (blk_lt HXD.out) (Nat.le_trans HV1.out.1.size HD1.out.1.1.size))).trans hx2.out))
    refine hK.out _ _ ?_ (fun hHeld => ?_)
    focus ((try dsimp only); exact KS.out _ hx3.out; done)
    clear hK K
    (try simp only [Act.put, List.getElem_toArray, List.getElem_cons_zero, List.getElem_cons_succ, List.setIfInBounds_toArray, List.set_cons_zero, List.set_cons_succ])
    have hb3 := HB1.out.grow HV3.out.1
    have HBX3 := Lib.hid hb3
    obtain ⟨A3, c3, ev, hba, hbk⟩ := row_arg HV3.out
    rw [hq.out] at ev
    subst ev
    have hw3 := RWrite_any (cb := c3) hb3.w (by have := HM.out; omega) ps hba (fun ad e => ⟨(hbk ad e).2, fun e2 => by have := HB1.out.w.ter _ e2; have := (hbk ad e).1; omega⟩)
    rw [hq.out] at hw3
    have HW3 := Lib.hid hw3
    have HXN : Hid (¬ T1 bx ∧ ¬ R1 bx ∧ bx < w3.heap.size) := by
      have h1 := blk_lt HXD.out
      have h2 := HV1.out.1.size
      have h3 := HD1.out.1.1.size
      have h4 := HV3.out.1.size
      exact Lib.hid ⟨fun e => (ET1.out.2 bx e).elim HTX.out.1 (fun e => by omega), fun e => (ER1.out.2 bx e).elim HTX.out.2 (fun e => by omega), by omega⟩
    clear hb3 hba hbk hw3
    refine wpAnyH_ready (rs := [17]) (by decide +kernel) (by simp) ?_
    refine AllReadyH.cons rfl (fun K hK => ?_) AllReadyH.nil
    (try simp only [List.getElem_toArray, List.getElem_cons_zero, List.getElem_cons_succ])
    go_simp
    (go_at_call 29; refine HW3.out.mono ?_; rintro e' w4 ⟨rfl, hd⟩; have HD3 := Lib.hid (HBX3.out.stepW hd); have hx4 := Lib.hid ((HD3.out.keep HXN.out.2.2 HXN.out.1 HXN.out.2.1).trans hx3.out))
    refine hK.out _ _ ?_ (fun hHeld => ?_)
    focus ((try dsimp only); exact KS.out _ hx4.out; done)
    clear hK K
    (try simp only [Act.put, List.getElem_toArray, List.getElem_cons_zero, List.getElem_cons_succ, List.setIfInBounds_toArray, List.set_cons_zero, List.set_cons_succ])
    refine takeSome (i := 18) (v := ?_) (by decide +kernel) rfl (by rfl) (by decide +kernel) (by decide +kernel) (fun _ _ _ h => h) (by assumption) ?_ ?_
    rotate_left
    focus (intro w0 hSw; (try dsimp only at hSw); go_simp; (try (with_reducible rfl)); done)
    (try simp only [Act.put, List.getElem_toArray, List.getElem_cons_zero, List.getElem_cons_succ, List.setIfInBounds_toArray, List.set_cons_zero, List.set_cons_succ])
    refine takeSome (i := 19) (v := ?_) (by decide +kernel) rfl (by rfl) (by decide +kernel) (by decide +kernel) (fun _ _ _ h => h) (by assumption) ?_ ?_
    rotate_left
    focus (intro w0 hSw; (try dsimp only at hSw); go_simp; (try (with_reducible rfl)); done)
    (try simp only [Act.put, List.getElem_toArray, List.getElem_cons_zero, List.getElem_cons_succ, List.setIfInBounds_toArray, List.set_cons_zero, List.set_cons_succ])
    refine wpAnyH_done (by decide +kernel) ?_ _
    clear hHeld
    go_wp2_with fail
    go_ret
    refine ⟨_, rfl, fun e => by rw [e]; exact beq_self_eq_true _, ?_⟩
    show BothTo W _ T R (writeS st ps (dataL fl od)) (writeS su ps (dataL fl od)) g r
    exact BothTo.below HB.out (BothTo.below HBU.out (BothTo.below HV1.out.1 (BothTo.comp HD1.out.1 ET1.out ER1.out (BothTo.below HV3.out.1 HD3.out))))
  by_cases q3 : kd = 3
  · subst q3
    have HR1 := Lib.hid (Barrier_any HBT.out.d (by have := HN.out; omega))
    clear q1 q2
    go_enter Try.func11, Try.ntmps11
    go_wp2_with (first | (go_at_call 14; refine HR1.out.mono ?_; rintro e' w1 ⟨rfl, hd⟩; have HD1 := Lib.hid (HBT.out.stepD hd); obtain ⟨T1, R1, et1, er1, hb1⟩ := HD1.out.both; have HB1 := Lib.hid hb1; have ET1 := Lib.hid et1; have ER1 := Lib.hid er1; clear hd et1 er1 hb1; have HR2 := Lib.hid (RBarrier_any HB1.out.w (by have := HM.out; omega))) | (go_at_call 15; refine HR2.out.mono ?_; rintro e' w2 ⟨rfl, hd⟩; have HD2 := Lib.hid (HB1.out.stepW hd); clear hd))
    go_ret
    exact ⟨_, rfl, fun e => (by rw [e]; exact beq_self_eq_true _), BothTo.below HB.out (BothTo.comp HD1.out.1 ET1.out ER1.out HD2.out)⟩
  by_cases q4 : kd = 4
  · subst q4
    have HR1 := Lib.hid (Limit_any HBT.out.d ps HA.out.1.2)
    clear q1 q2 q3
    by_cases hp : ps < 0
    · have HE := Lib.hid (show limE ps = 1 ∧ ∀ s, limS s ps = s from ⟨if_pos hp, fun s => if_pos hp⟩)
      have hle := HE.out.1
      rw [hle] at HR1
      have hp2 : ps < 0 := hp
      clear hle
      go_enter Try.func11, Try.ntmps11
      go_wp2_with (go_at_call 23; refine HR1.out.mono ?_; rintro e' w1 ⟨rfl, hd⟩; have HD1 := Lib.hid (HBT.out.stepD hd); have e1 := (KX.out _ _ _ HD1.out 1).trans k1; obtain ⟨T1, R1, et1, er1, hb1⟩ := HD1.out.both; have HB1 := Lib.hid hb1; have ET1 := Lib.hid et1; have ER1 := Lib.hid er1; clear hd et1 er1 hb1)
      go_ret
      refine ⟨true, rfl, fun _ => rfl, BothTo.below HB.out ?_⟩
      show BothTo u w1 T R (limS st ps) (limS su ps) g r
      rw [HE.out.2 su]
      exact HD1.out
    · have HE := Lib.hid (show limE ps = 0 ∧ ∀ s, limS s ps = { s with left := ps.toNat } from ⟨if_neg hp, fun s => if_neg hp⟩)
      have hle := HE.out.1
      rw [hle] at HR1
      clear hle
      go_enter Try.func11, Try.ntmps11
      go_upto_region 14 with (go_at_call 23; refine HR1.out.mono ?_; rintro e' w1 ⟨rfl, hd⟩; have HD1 := Lib.hid (HBT.out.stepD hd); have e1 := (KX.out _ _ _ HD1.out 1).trans k1; obtain ⟨T1, R1, et1, er1, hb1⟩ := HD1.out.both; have HB1 := Lib.hid hb1; have ET1 := Lib.hid et1; have ER1 := Lib.hid er1; clear hd et1 er1 hb1)
      obtain ⟨vr, Ur, hr⟩ := HB1.out.w
      have HRA := Lib.hid hr
      have k3r := hr.c3
      have f3 := blk_frozen hr.blk 3
      obtain ⟨pn, hpn⟩ : ∃ pn : Nat, Hid (ps = pn) := ⟨ps.toNat, Lib.hid (by omega)⟩
      have b3 := blk_set hr.blk 3 (.int .i64 ps)
      simp only [List.setIfInBounds_toArray, List.set_cons_succ, List.set_cons_zero] at b3
      have B3 := Lib.hid b3
      clear hr b3
      go_wp2_with fail
      go_ret
      have hf : Fr (· = r) w1 (w1.setCell ⟨r, 3, none⟩ (.int .i64 ps)) := Fr.set rfl
      refine ⟨true, rfl, fun _ => rfl, ?_⟩
      show BothTo W _ T R (limS st ps) (limS su ps) g r
      refine BothTo.below HB.out (BothTo.comp HD1.out.1 ET1.out ER1.out (HB1.out.stepW ⟨hf.mono (fun k _ e => HB1.out.w.nb k e), R1, Ext.refl _ _, vr, Ur, ?_⟩))
      have hok : (limS su ps).ok := by
        rw [HE.out.2, hpn.out, Int.toNat_natCast]
        obtain ⟨a, b, c, d⟩ := HRA.out.ok
        exact ⟨a, b, by have := HA.out.1.2; rw [hpn.out] at this; exact this, d⟩
      refine HRA.out.set hf hok ?_ (by rw [HE.out.2])
      rw [HE.out.2]
      show _ = some (Obj.cells #[_, _, _, .int .i64 ((ps.toNat : Nat) : Int), _] _ _)
      rw [show ((ps.toNat : Nat) : Int) = ps by rw [hpn.out]; rfl]
      exact B3.out
  by_cases q5 : kd = 5
  · subst q5
    have HR1 := Lib.hid (RCrash_any HBT.out.w (by have := HM.out; omega) mk HA.out.2)
    clear q1 q2 q3 q4
    go_enter Try.func11, Try.ntmps11
    go_wp2_with (first | (go_at_call 30; refine HR1.out.mono ?_; rintro e' w1 ⟨rfl, hd⟩; have HD1 := Lib.hid (HBT.out.stepW hd); have e4 := (KX.out _ _ _ HD1.out 4).trans k4; obtain ⟨T1, R1, et1, er1, hb1⟩ := HD1.out.both; have HB1 := Lib.hid hb1; have ET1 := Lib.hid et1; have ER1 := Lib.hid er1; clear hd et1 er1 hb1; have HR2 := Lib.hid (Crash_any HB1.out.d (by have := HN.out; omega) mk HA.out.2)) | (go_at_call 17; refine HR2.out.mono ?_; rintro e' w2 ⟨rfl, hd⟩; have HD2 := Lib.hid (HB1.out.stepD hd); clear hd))
    go_ret
    exact ⟨_, rfl, fun e => rfl, BothTo.below HB.out (BothTo.comp HD1.out.1 ET1.out ER1.out HD2.out)⟩
  have HS : Hid (∀ s : DS, actS s ⟨kd, ps, fl, od, mk⟩ = s) := Lib.hid fun s => by unfold actS; rw [if_neg q2, if_neg q3, if_neg q4, if_neg q5]
  go_enter Try.func11, Try.ntmps11
  go_wp2_with fail
  go_ret
  rw [HS.out, HS.out]
  exact ⟨true, rfl, fun _ => rfl, BothTo.below HB.out (BothTo.refl HBT.out)⟩
end Go.Proofs.Ytngfffbnofejmaa
