/- Layer sector, the document's disk: reads and writes. -/
import Derived.Test.YtngfffbnofejmaaSRf2
namespace Go.Proofs.Ytngfffbnofejmaa
open Go.RowKit Go.Lib Go.ChangeMaps Go.MapKept

/-- Bytes appended to a row of the call's own, in a region that draws its order. -/
theorem step_appB {w0 W : World} {v : Value} {l : List UInt8} (HR : BRow w0 v l W) (qs : List UInt8) (A : Option Addr) (c : Nat) (hq : BytesAt W A qs.length qs) (hnil : A = none → c = 0) (hb : l.length + qs.length ≤ 1000000000)
    {ops : Array Oper} {o : Oper} {a : Act} {K : Act → World → Prop} {Q : Exit → Act → World → Prop} {E : Prop} (hgd : o.guard = none) (s x : Operand)
    (ho : o.op = .call { callee := .builtin .append, args := #[s, x], argTypes := #[43, 43] })
    (hs : a.eval s = v) (hx : a.eval x = .slice A qs.length c)
    (h : ∀ v' w', BRow w0 v' (l ++ qs) w' → K (a.put o.dst v') w') :
    if Region.wanted o (yielded ops a.tmps) = true then Oper.wp Try.prog o a W K Q else E := by
  have hw : Region.wanted o (yielded ops a.tmps) = true := by simp [Region.wanted, hgd]
  rw [if_pos hw]
  obtain ⟨i0, z, hi, hz0, hz1, hz2⟩ : ∃ i z, Try.prog.info? 5 = some i ∧ i.zero = some z ∧ i.size = 1 ∧ (i.bytes = 1 ∧ z.cells.size = 1) := by
    obtain ⟨i, h1, h2, h3, h4⟩ := info_parts infoB
    exact ⟨i, _, h1, h2, h3, h4, rfl⟩
  cases A with
  | none =>
    obtain rfl : qs = [] := by
      cases qs with
      | nil => rfl
      | cons p q => obtain ⟨_, _, e, _⟩ := hq (by simp); cases e
    obtain rfl := hnil rfl
    have hrun := run_append_owned_none (P := Try.prog) (w := W) w0.heap.size 43 o.type 5 i0 1 Try.underlying43 hi v l.length (byV l) HR.2
    have h' := h v W (by rw [List.append_nil]; exact HR)
    unfold Oper.wp
    have hx' : a.eval x = .slice none 0 0 := hx
    simp [execOp, ho, resolve, invoke, builtin, hs, hx', hrun, Result.andThen]
    exact h'
  | some ad =>
    obtain ⟨v', w', hr, hown, hgrow, -, hat⟩ := run_append_own_at (P := Try.prog) W w0.heap.size 43 o.type 5 i0 z 1 1 Try.underlying43 hi hz0 hz1 hz2.1 hz2.2 (by decide) v l.length (byV l) HR.2 ad qs.length c (byV qs) (by rw [byV_len, Nat.mul_one]) (fun j u hu => by
      have hj : j < qs.length := by
        have := (List.getElem?_eq_some_iff.1 hu).1
        rwa [byV_len] at this
      obtain ⟨g, o', e, hc⟩ := hq (by omega)
      cases e
      rw [show (⟨g, o', none⟩ : Addr).add j = ⟨g, o' + j, none⟩ by simp [Addr.add], hc j hj, ← hu]
      simp [byV, List.getD_eq_getElem?_getD, List.getElem?_eq_getElem hj]) (fun u hu => by
      obtain ⟨y, _, rfl⟩ := List.mem_map.1 hu
      rfl) (by unfold maxLen; omega) (by omega) HR.1.size
    have hgb : Below w0.heap.size w0 w' := HR.1.grown hgrow HR.1.size (fun k hk => (HR.2.lt k hk).1)
    have h' := h v' w' ⟨hgb, by
      rw [List.length_append]
      have : byV (l ++ qs) = byV l ++ byV qs := by simp [byV]
      rw [this]
      exact hown⟩
    unfold Oper.wp
    simp [execOp, ho, resolve, invoke, builtin, hs, hx, hr, Result.andThen]
    exact h'
/-- The disk's own block stays while its list grows. -/
theorem RAt.grown {W u3 w5 : World} {T : Nat → Prop} {st : DS} {g : Nat} {v : Value} {U : List WV} (h : RAt W T st g v U) (hb : Below W.heap.size W u3) (hg : u3.grownBy w5 v.ownBlock) :
    w5.heap[g]? = some (.cells #[.int .i64 (st.sz : Nat), v, .int .i64 (st.n : Nat), .int .i64 (st.left : Nat), .bool st.out] 31 (0, 0)) := by
  have h3 := (hb.block g (blk_lt h.blk)).trans h.blk
  exact (hg.block g (blk_lt h3) (fun e => h.row.ne e.symm h.blk (by decide) rfl)).trans h3
/-- What a write leaves. -/
theorem RAt.push {W u3 w5 : World} {T : Nat → Prop} {st : DS} {g : Nat} {v v5 : Value} {U : List WV} {x : WV} (h : RAt W T st g v U) (hb : Below W.heap.size W u3) (hx : SvAt u3 (fun k => T k ∨ (W.heap.size ≤ k ∧ k < u3.heap.size)) x.2) (hlt : x.1 < st.sz)
    (hr : ∀ T' : Nat → Prop, (∀ k, (T k ∨ (W.heap.size ≤ k ∧ k < u3.heap.size)) → T' k) → (u3.heap.size < w5.heap.size → T' u3.heap.size) → LogAt w5 T' v5 (U ++ [x])) (hg : u3.grownBy w5 v.ownBlock) :
    RkTo W (w5.setCell ⟨g, 1, none⟩ v5) T { st with log := st.log ++ [x.w] } g := by
  have f5 : Fr (fun k => v.ownBlock = some k) u3 w5 := Fr.grew hg (fun k e => e)
  have f6 : Fr (· = g) w5 (w5.setCell ⟨g, 1, none⟩ v5) := Fr.set rfl
  have hbg := h.grown hb hg
  have hz : (w5.setCell ⟨g, 1, none⟩ v5).heap.size = w5.heap.size := by simp [World.setCell]
  have b6 := blk_set hbg 1 v5
  have f16 : Fr (fun k => k = g ∨ v.ownBlock = some k) W (w5.setCell ⟨g, 1, none⟩ v5) := ((Fr.of hb).trans f5 (fun k _ e => .inr e)).trans f6 (fun k _ e => .inl e)
  let T' : Nat → Prop := fun k => T k ∨ (W.heap.size ≤ k ∧ k < w5.heap.size)
  have hs5 := f5.1.size
  have hs3 := hb.size
  have hR := hr T' (fun k e => e.imp id (fun e => ⟨e.1, by omega⟩)) (fun e => .inr ⟨by omega, e⟩)
  have hT5 : Ter w5 T' := fun k e => e.elim (fun e => by have := h.ter k e; omega) (fun e => e.2)
  refine ⟨f16.mono (fun k _ e => ?_), T', ⟨fun k e => .inl e, fun k e => e.imp id (fun e => e.1)⟩, v5, U ++ [x], ?_⟩
  · rcases e with rfl | e
    · exact ⟨h.here, no_byte h.blk (by decide)⟩
    · exact ⟨h.row.ter k e, h.row.noByte e⟩
  · exact { ok := DS.push_ok h.ok hlt hx.2.1, ter := fun k e => by rw [hz]; exact hT5 k e, here := .inl h.here, blk := b6,
            row := hR.fr hT5 f6 (fun k e => by subst e; exact no_byte hbg (by decide)) (fun k e => hR.ne e hbg (by decide)),
            log := by rw [List.map_append, h.log]; rfl }
set_option maxHeartbeats 1000000 in
theorem RRead_any {W : World} {T : Nat → Prop} {st : DS} {g : Nat} (h : Rk W T st g) (hn : st.log.length ≤ 100000) (i : Int) :
    Calls Try.prog 28 #[.pointer (some ⟨g, 0, none⟩), .int .i64 i] W fun e w' => RdTo W w' st i e := by
  have HF := Lib.hid (rfault_any h i)
  by_cases hr : readE st i = 0
  · have hin : 0 ≤ i := by
      by_cases h0 : 0 ≤ i
      · exact h0
      · exfalso
        unfold readE at hr
        split at hr
        · exact absurd hr (by decide)
        · rw [if_pos (show badAt st i from .inl (by omega))] at hr
          exact absurd hr (by decide)
    obtain ⟨j, rfl⟩ : ∃ j : Nat, i = j := ⟨i.toNat, by omega⟩
    have HN := Lib.hid (Now_any h hn j)
    have HP := Lib.hid (show readE st (j : Int) = 0 ∧ readS st (j : Int) = nowL st.log j from ⟨hr, by unfold readS; rw [if_pos hr, Int.toNat_natCast]⟩)
    rw [hr] at HF
    clear h hr hin
    go_enter Try.func28, Try.ntmps28
    go_wp2_with (first | (go_at_call 38; refine HF.out.mono ?_; rintro e' w' ⟨rfl, hwz⟩; have hwz := hwz.symm; subst hwz) | (go_at_call 20; refine HN.out.mono ?_; rintro e' w2 ⟨v2, rfl, hr2⟩; have HR2 := Lib.hid hr2; clear hr2))
    go_ret2
    exact ⟨_, by rw [HP.out.1]; rfl, by rw [HP.out.2]; exact HR2.out⟩
  · have HP := Lib.hid (show readS st i = [] by unfold readS; rw [if_neg hr])
    generalize hq : readE st i = q at *
    have hb : (q != 0) = true := bne_iff_ne.2 hr
    have hq' := Lib.hid hq
    clear h hr hq
    go_enter Try.func28, Try.ntmps28
    go_wp2_with (go_at_call 38; refine HF.out.mono ?_; rintro e' w' ⟨rfl, hwz⟩; have hwz := hwz.symm; subst hwz)
    go_ret2
    exact ⟨_, by rw [hq'.out]; rfl, by rw [HP.out]; exact BRow.none _⟩
set_option maxHeartbeats 4000000 in
theorem RWrite_any {W : World} {T : Nat → Prop} {st : DS} {g : Nat} (h : Rk W T st g) (hn : st.log.length ≤ 100000) (i : Int) {A : Option Addr} {cb : Nat} {bs : List UInt8} (hB : BytesAt W A bs.length bs) (hlt : ∀ ad, A = some ad → ad.block < W.heap.size ∧ ¬ T ad.block) :
    Calls Try.prog 29 #[.pointer (some ⟨g, 0, none⟩), .int .i64 i, .slice A bs.length cb] W fun e w' => e = .returned (.int .i64 (writeE st i bs)) ∧ RkTo W w' T (writeS st i bs) g := by
  have HF := Lib.hid (rfault_any h i)
  have HK := Lib.hid h
  by_cases hr : readE st i = 0
  · have ho : st.out = false := by
      cases e : st.out
      · rfl
      · unfold readE at hr; rw [if_pos e] at hr; exact absurd hr (by decide)
    have hb : ¬ badAt st i := fun e => by
      unfold readE at hr
      rw [if_neg (by rw [ho]; decide), if_pos e] at hr
      exact absurd hr (by decide)
    rw [hr] at HF
    by_cases hq : bs.length = 512
    · have hnb : ¬ (badAt st i ∨ bs.length ≠ 512) := fun e => e.elim hb (fun e => e hq)
      have HP0 := Lib.hid (show writeE st i bs = dn (burn st).out ∧ writeS st i bs = if (burn st).out = true then burn st else { burn st with log := st.log ++ [(i.toNat, bs)] } from ⟨by
        unfold writeE dn
        rw [if_neg (by rw [ho]; decide), if_neg hnb], by
        unfold writeS
        rw [if_neg (by rw [ho]; decide), if_neg hnb]⟩)
      have HS := Lib.hid (burns_any h ho)
      have HBL := Lib.hid hq
      obtain ⟨ad, rfl⟩ : ∃ ad, A = some ad := by
        obtain ⟨b, o, e, -⟩ := hB (by omega)
        exact ⟨_, e⟩
      have HB := Lib.hid hB
      have HL := Lib.hid (hlt ad rfl)
      have HJ := Lib.hid (show 0 ≤ i ∧ i < st.sz by unfold badAt at hb; omega)
      have HN := Lib.hid hn
      obtain ⟨j, rfl⟩ : ∃ j : Nat, i = j := ⟨i.toNat, by have := HJ.out; omega⟩
      clear h ho hb hnb hB hlt hn hr
      rw [hq]
      cases hbo : (burn st).out
      · rw [hbo] at HS
        rw [hbo, dn_f, if_neg (by decide)] at HP0
        go_enter Try.func29, Try.ntmps29
        go_upto_region 8 with (first | (go_at_call 38; refine HF.out.mono ?_; rintro e' w' ⟨rfl, hwz⟩; have hwz := hwz.symm; subst hwz) | (go_at_call 35; refine HS.out.mono ?_; rintro e' w1 ⟨rfl, hd1, hf1⟩; have HD1 := Lib.hid hd1; have HF1 := Lib.hid hf1; clear hd1 hf1))
        obtain ⟨v, U, hd⟩ := HD1.out
        obtain ⟨A, c, rfl⟩ := hd.row.shape
        have HUL : Hid (U.length + 1 ≤ 1000000) := by
          have h1 := congrArg List.length hd.log
          rw [List.length_map, (burn_log st).1] at h1
          exact Lib.hid (by have := HN.out; omega)
        have HJ2 : Hid (j < (burn st).sz) := Lib.hid (by rw [(burn_log st).2.2]; have := HJ.out.2; omega)
        have hbu : Below w1.heap.size w1 w1.drew := (Below.refl _ w1).drew
        have hd0 := hd.on (W' := w1.drew) (fun _ h => h) (hd.ter.on hbu.size) (fun k hk => hbu.block k (hd.ter k hk))
        have hB0 : BytesAt w1.drew (some ad) bs.length bs := BytesAt.fr HB.out (fun ad' e => (by cases e; exact HL.out.1)) (HF1.out.trans (Fr.of hbu) (fun _ _ e => e)) (fun ad' e => (by cases e; exact fun e => HL.out.2 (e ▸ (HK.out.nb g rfl).1)))
        obtain ⟨u0, E0⟩ : ∃ u, w1.drew = u := ⟨_, rfl⟩
        rw [E0] at hbu hd0 hB0
        obtain ⟨q, hqq⟩ : ∃ q, Hid (U.length = q) := ⟨_, Lib.hid rfl⟩
        have k10 : u0.cell? ⟨g, 1, none⟩ = some (.slice A q c) := by rw [← hqq.out]; exact hd0.c1
        have hr1 := BRow.made u0 u0 (Below.refl _ _)
        have hb1 := Below.alloc (Below.refl u0.heap.size u0) (Nat.le_refl _) (Obj.cells #[] 5 (0, 0))
        have hy1 : BytesAt (u0.alloc (Obj.cells #[] 5 (0, 0))) (some ad) bs.length bs := bytes_on hB0 (grew_of hb1 none) (fun _ _ => by simp)
        have k11 : (u0.alloc (Obj.cells #[] 5 (0, 0))).cell? ⟨g, 1, none⟩ = some (.slice A q c) := (hb1.cell (p := ⟨g, 1, none⟩) (blk_lt hd0.blk)).trans k10
        obtain ⟨u1, E1⟩ : ∃ u, u0.alloc (Obj.cells #[] 5 (0, 0)) = u := ⟨_, rfl⟩
        rw [E1] at hr1 hb1 hy1 k11
        have HD0 := Lib.hid hd0
        have HU0 := Lib.hid hbu
        have HR1 := Lib.hid hr1
        have HY1 := Lib.hid hy1
        clear hd hbu hd0 hB0 hr1 hb1 hy1
        have HQV := Lib.hid (show (Value.slice A q c) = Value.slice A U.length c by rw [hqq.out])
        refine wp_region_held_drew (S := fun _ => True) (by kernel_rfl) ?_ (fun hHeld => ?_)
        · trivial
        rw [E0] at ⊢
        refine takeSome (i := 0) (v := ?_) (by decide +kernel) rfl (by rfl) (by decide +kernel) (by decide +kernel) (fun _ _ _ h => h) (by assumption) ?_ ?_
        rotate_left
        focus (intro w0 hSw; (try dsimp only at hSw); go_simp; (try (with_reducible rfl)); done)
        (try simp only [Act.put, List.getElem_toArray, List.getElem_cons_zero, List.setIfInBounds_toArray, List.set_cons_zero, List.set_cons_succ])
        refine takeSome (i := 1) (v := ?_) (by decide +kernel) rfl (by rfl) (by decide +kernel) (by decide +kernel) (fun _ _ _ h => h) (by assumption) ?_ ?_
        rotate_left
        focus (intro w0 hSw; (try dsimp only at hSw); go_simp; (try (with_reducible rfl)); done)
        (try simp only [Act.put, List.getElem_toArray, List.getElem_cons_zero, List.getElem_cons_succ, List.setIfInBounds_toArray, List.set_cons_zero, List.set_cons_succ])
        refine takeSome (i := 2) (v := ?_) (by decide +kernel) rfl (by rfl) (by decide +kernel) (by decide +kernel) (fun _ _ _ h => h) (by assumption) ?_ ?_
        rotate_left
        focus (intro w0 hSw; (try dsimp only at hSw); go_simp; (try (with_reducible rfl)); done)
        (try simp only [Act.put, List.getElem_toArray, List.getElem_cons_zero, List.getElem_cons_succ, List.setIfInBounds_toArray, List.set_cons_zero, List.set_cons_succ])
        refine takeSome (i := 3) (v := ?_) (by decide +kernel) rfl (by rfl) (by decide +kernel) (by decide +kernel) (fun _ _ _ h => h) (by assumption) ?_ ?_
        rotate_left
        focus (intro w0 hSw; (try dsimp only at hSw); go_simp; (try (with_reducible rfl)); done)
        (try simp only [Act.put, List.getElem_toArray, List.getElem_cons_zero, List.getElem_cons_succ, List.setIfInBounds_toArray, List.set_cons_zero, List.set_cons_succ])
        refine takeSome (i := 5) (v := ?_) (by decide +kernel) rfl (by rfl) (by decide +kernel) (by decide +kernel) (fun _ _ _ h => h) (by assumption) ?_ ?_
        rotate_left
        focus (intro w0 hSw; (try dsimp only at hSw); go_simp; (try (with_reducible rfl)); done)
        (try simp only [Act.put, List.getElem_toArray, List.getElem_cons_zero, List.getElem_cons_succ, List.setIfInBounds_toArray, List.set_cons_zero, List.set_cons_succ])
        refine takeSome (i := 7) (v := ?_) (by decide +kernel) rfl (by rfl) (by decide +kernel) (by decide +kernel) (fun _ _ _ h => h) (by assumption) ?_ ?_
        rotate_left
        focus (intro w0 hSw; (try dsimp only at hSw); go_simp; (try (with_reducible rfl)); done)
        (try simp only [Act.put, List.getElem_toArray, List.getElem_cons_zero, List.getElem_cons_succ, List.setIfInBounds_toArray, List.set_cons_zero, List.set_cons_succ])
        refine wpAnyH_ready (rs := [4, 6]) (by decide +kernel) (by simp) ?_
        refine AllReadyH.cons rfl (fun K hK => ?_) (AllReadyH.cons rfl (fun K hK => ?_) AllReadyH.nil)
        · skip
          (try simp only [List.getElem_toArray, List.getElem_cons_zero, List.getElem_cons_succ])
          go_simp
          refine hK.out _ _ trivial (fun hHeld => ?_)
          clear hK K
          (try simp only [Act.put, List.getElem_toArray, List.getElem_cons_zero, List.getElem_cons_succ, List.setIfInBounds_toArray, List.set_cons_zero, List.set_cons_succ])
          refine wpAnyH_ready (rs := [6]) (by decide +kernel) (by simp) ?_
          refine AllReadyH.cons rfl (fun K hK => ?_) AllReadyH.nil
          (try simp only [List.getElem_toArray, List.getElem_cons_zero, List.getElem_cons_succ])
          go_simp
          (try rw [E1])
          refine hK.out _ _ trivial (fun hHeld => ?_)
          clear hK K
          (try simp only [Act.put, List.getElem_toArray, List.getElem_cons_zero, List.getElem_cons_succ, List.setIfInBounds_toArray, List.set_cons_zero, List.set_cons_succ])
          refine wpAnyH_ready (rs := [8]) (by decide +kernel) (by simp) ?_
          refine AllReadyH.cons rfl (fun K hK => ?_) AllReadyH.nil
          refine step_appB HR1.out bs (some ad) cb HY1.out (fun e => by cases e) (by rw [HBL.out]; decide) (by rfl) _ _ (by rfl) (by rfl) (by rw [HBL.out]; rfl) ?_
          intro v2 w2 hr2
          rw [List.nil_append] at hr2
          obtain ⟨x2, ev, hx2, hsv⟩ := hr2.sv HBL.out
          have ev2 : x2.v = .slice x2.A 512 x2.cap := by unfold SV.v; rw [hx2, HBL.out]
          rw [ev2] at ev
          subst ev
          have HB2 := Lib.hid hr2.1
          have HX2 := Lib.hid hx2
          have HSV := Lib.hid hsv
          have k1w : w2.cell? ⟨g, 1, none⟩ = some (.slice A q c) := (HB2.out.cell (p := ⟨g, 1, none⟩) (blk_lt HD0.out.blk)).trans k10
          have ha := Below.alloc (Below.refl w2.heap.size w2) (Nat.le_refl _) (Obj.cells #[.int .i64 (j : Nat), .slice x2.A 512 x2.cap] 51 (0, 0))
          have hal := heap_alloc_new w2 (Obj.cells #[.int .i64 (j : Nat), .slice x2.A 512 x2.cap] 51 (0, 0))
          obtain ⟨u3, E3⟩ : ∃ u, w2.alloc (Obj.cells #[.int .i64 (j : Nat), .slice x2.A 512 x2.cap] 51 (0, 0)) = u := ⟨_, rfl⟩
          rw [E3] at ha hal
          have HB3 := Lib.hid (HB2.out.trans (ha.mono HB2.out.size))
          have HN3 := Lib.hid hal
          have HX3 : Hid (SvAt u3 (fun k => T k ∨ (u0.heap.size ≤ k ∧ k < u3.heap.size)) x2) := Lib.hid ((HSV.out (fun k => u0.heap.size ≤ k ∧ k < w2.heap.size) (fun k h1 h2 => ⟨h1, h2⟩)).on (fun k e => .inr ⟨e.1, by have := ha.size; have := e.2; omega⟩) (fun k h1 _ => ha.block k h1.2))
          have HEN := Lib.hid (show (#[.int .i64 (j : Nat), .slice x2.A 512 x2.cap] : Array Value).toList = encW (j, x2) by unfold encW; rw [ev2])
          have HT3 : Hid (Ter u3 (fun k => T k ∨ (u0.heap.size ≤ k ∧ k < u3.heap.size))) := Lib.hid (fun k e => e.elim (fun e => Nat.lt_of_lt_of_le (HD0.out.ter k e) HB3.out.size) (fun e => e.2))
          have HL3 := Lib.hid (HD0.out.row.on (W' := u3) (T' := fun k => T k ∨ (u0.heap.size ≤ k ∧ k < u3.heap.size)) (fun k e => .inl e) (fun k hk => HB3.out.block k (HD0.out.ter k hk)))
          have k13 : u3.cell? ⟨g, 1, none⟩ = some (.slice A q c) := (HB3.out.cell (p := ⟨g, 1, none⟩) (blk_lt HD0.out.blk)).trans k10
          clear ha hal hr2 hx2 hsv ev2
          refine hK.out _ _ trivial (fun hHeld => ?_)
          clear hK K
          (try simp only [Act.put, List.getElem_toArray, List.getElem_cons_zero, List.getElem_cons_succ, List.setIfInBounds_toArray, List.set_cons_zero, List.set_cons_succ])
          refine takeSome (i := 9) (v := ?_) (by decide +kernel) rfl (by rfl) (by decide +kernel) (by decide +kernel) (fun _ _ _ h => h) (by assumption) ?_ ?_
          rotate_left
          focus (intro w0 hSw; (try dsimp only at hSw); go_simp; (try (with_reducible rfl)); done)
          (try simp only [Act.put, List.getElem_toArray, List.getElem_cons_zero, List.getElem_cons_succ, List.setIfInBounds_toArray, List.set_cons_zero, List.set_cons_succ])
          refine wpAnyH_ready (rs := [10]) (by decide +kernel) (by simp) ?_
          refine AllReadyH.cons rfl (fun K hK => ?_) AllReadyH.nil
          (try simp only [List.getElem_toArray, List.getElem_cons_zero, List.getElem_cons_succ])
          go_simp
          (try rw [E3])
          refine hK.out _ _ trivial (fun hHeld => ?_)
          clear hK K
          (try simp only [Act.put, List.getElem_toArray, List.getElem_cons_zero, List.getElem_cons_succ, List.setIfInBounds_toArray, List.set_cons_zero, List.set_cons_succ])
          refine wpAnyH_ready (rs := [11]) (by decide +kernel) (by simp) ?_
          refine AllReadyH.cons rfl (fun K hK => ?_) AllReadyH.nil
          refine step_appW HL3.out HT3.out (j, x2) HX3.out HN3.out HEN.out HUL.out (by rfl) _ _ (by rfl) (Eq.trans (b := Value.slice A q c) (by rfl) HQV.out) 1 (by rfl) ?_; intro v5 w5 hr5 hg5 _
          refine hK.out _ _ ?_ (fun hHeld => ?_)
          focus ((try dsimp only); (try trivial); done)
          clear hK K
          (try simp only [Act.put, List.getElem_toArray, List.getElem_cons_zero, List.getElem_cons_succ, List.setIfInBounds_toArray, List.set_cons_zero, List.set_cons_succ])
          obtain ⟨A5, C5, e5⟩ := (hr5 (fun _ => True) (fun _ _ => trivial) (fun _ => trivial)).shape
          obtain ⟨q5, hq5⟩ : ∃ q, Hid ((U ++ [(j, x2)]).length = q) := ⟨_, Lib.hid rfl⟩
          rw [hq5.out] at e5
          subst e5
          refine takeSome (i := 12) (v := ?_) (by decide +kernel) rfl (by rfl) (by decide +kernel) (by decide +kernel) (fun _ _ _ h => h) (by assumption) ?_ ?_
          rotate_left
          focus (intro w0 hSw; (try dsimp only at hSw); go_simp; (try (with_reducible rfl)); done)
          (try simp only [Act.put, List.getElem_toArray, List.getElem_cons_zero, List.getElem_cons_succ, List.setIfInBounds_toArray, List.set_cons_zero, List.set_cons_succ])
          refine takeSome (i := 13) (v := ?_) (by decide +kernel) rfl (by rfl) (by decide +kernel) (by decide +kernel) (fun _ _ _ h => h) (by assumption) ?_ ?_
          rotate_left
          focus (intro w0 hSw; (try dsimp only at hSw); go_simp; (try (with_reducible rfl)); done)
          (try simp only [Act.put, List.getElem_toArray, List.getElem_cons_zero, List.getElem_cons_succ, List.setIfInBounds_toArray, List.set_cons_zero, List.set_cons_succ])
          have hbg := HD0.out.grown HB3.out hg5
          have k5 : w5.cell? ⟨g, 1, none⟩ = _ := blk_cell hbg 1
          have f5 := blk_frozen hbg 1
          have HR5 := Lib.hid hr5
          have HG5 := Lib.hid hg5
          clear hr5 hg5 hbg
          refine wpAnyH_ready (rs := [14]) (by decide +kernel) (by simp) ?_
          refine AllReadyH.cons rfl (fun K hK => ?_) AllReadyH.nil
          (try simp only [List.getElem_toArray, List.getElem_cons_zero, List.getElem_cons_succ])
          go_simp
          refine hK.out _ _ ?_ (fun hHeld => ?_)
          focus ((try dsimp only); (try trivial); done)
          clear hK K
          (try simp only [Act.put, List.getElem_toArray, List.getElem_cons_zero, List.getElem_cons_succ, List.setIfInBounds_toArray, List.set_cons_zero, List.set_cons_succ])
          refine wpAnyH_done (by decide +kernel) ?_ _
          go_wp2_with fail
          go_ret
          refine ⟨by rw [HP0.out.1]; rfl, ?_⟩
          rw [HP0.out.2, Int.toNat_natCast, ← (burn_log st).1, ← HX2.out]
          exact RkTo.trans (HF1.out.mono (fun k _ e => HK.out.nb k e)) (Ext.refl _ _) (RkTo.trans (Fr.of HU0.out) (Ext.refl _ _) (HD0.out.push (x := (j, x2)) HB3.out HX3.out HJ2.out HR5.out HG5.out))
        · skip
          (try simp only [List.getElem_toArray, List.getElem_cons_zero, List.getElem_cons_succ])
          go_simp
          (try rw [E1])
          refine hK.out _ _ trivial (fun hHeld => ?_)
          clear hK K
          (try simp only [Act.put, List.getElem_toArray, List.getElem_cons_zero, List.getElem_cons_succ, List.setIfInBounds_toArray, List.set_cons_zero, List.set_cons_succ])
          refine wpAnyH_ready (rs := [4, 8]) (by decide +kernel) (by simp) ?_
          refine AllReadyH.cons rfl (fun K hK => ?_) (AllReadyH.cons rfl (fun K hK => ?_) AllReadyH.nil)
          · skip
            (try simp only [List.getElem_toArray, List.getElem_cons_zero, List.getElem_cons_succ])
            go_simp
            refine hK.out _ _ trivial (fun hHeld => ?_)
            clear hK K
            (try simp only [Act.put, List.getElem_toArray, List.getElem_cons_zero, List.getElem_cons_succ, List.setIfInBounds_toArray, List.set_cons_zero, List.set_cons_succ])
            refine wpAnyH_ready (rs := [8]) (by decide +kernel) (by simp) ?_
            refine AllReadyH.cons rfl (fun K hK => ?_) AllReadyH.nil
            refine step_appB HR1.out bs (some ad) cb HY1.out (fun e => by cases e) (by rw [HBL.out]; decide) (by rfl) _ _ (by rfl) (by rfl) (by rw [HBL.out]; rfl) ?_
            intro v2 w2 hr2
            rw [List.nil_append] at hr2
            obtain ⟨x2, ev, hx2, hsv⟩ := hr2.sv HBL.out
            have ev2 : x2.v = .slice x2.A 512 x2.cap := by unfold SV.v; rw [hx2, HBL.out]
            rw [ev2] at ev
            subst ev
            have HB2 := Lib.hid hr2.1
            have HX2 := Lib.hid hx2
            have HSV := Lib.hid hsv
            have k1w : w2.cell? ⟨g, 1, none⟩ = some (.slice A q c) := (HB2.out.cell (p := ⟨g, 1, none⟩) (blk_lt HD0.out.blk)).trans k10
            have ha := Below.alloc (Below.refl w2.heap.size w2) (Nat.le_refl _) (Obj.cells #[.int .i64 (j : Nat), .slice x2.A 512 x2.cap] 51 (0, 0))
            have hal := heap_alloc_new w2 (Obj.cells #[.int .i64 (j : Nat), .slice x2.A 512 x2.cap] 51 (0, 0))
            obtain ⟨u3, E3⟩ : ∃ u, w2.alloc (Obj.cells #[.int .i64 (j : Nat), .slice x2.A 512 x2.cap] 51 (0, 0)) = u := ⟨_, rfl⟩
            rw [E3] at ha hal
            have HB3 := Lib.hid (HB2.out.trans (ha.mono HB2.out.size))
            have HN3 := Lib.hid hal
            have HX3 : Hid (SvAt u3 (fun k => T k ∨ (u0.heap.size ≤ k ∧ k < u3.heap.size)) x2) := Lib.hid ((HSV.out (fun k => u0.heap.size ≤ k ∧ k < w2.heap.size) (fun k h1 h2 => ⟨h1, h2⟩)).on (fun k e => .inr ⟨e.1, by have := ha.size; have := e.2; omega⟩) (fun k h1 _ => ha.block k h1.2))
            have HEN := Lib.hid (show (#[.int .i64 (j : Nat), .slice x2.A 512 x2.cap] : Array Value).toList = encW (j, x2) by unfold encW; rw [ev2])
            have HT3 : Hid (Ter u3 (fun k => T k ∨ (u0.heap.size ≤ k ∧ k < u3.heap.size))) := Lib.hid (fun k e => e.elim (fun e => Nat.lt_of_lt_of_le (HD0.out.ter k e) HB3.out.size) (fun e => e.2))
            have HL3 := Lib.hid (HD0.out.row.on (W' := u3) (T' := fun k => T k ∨ (u0.heap.size ≤ k ∧ k < u3.heap.size)) (fun k e => .inl e) (fun k hk => HB3.out.block k (HD0.out.ter k hk)))
            have k13 : u3.cell? ⟨g, 1, none⟩ = some (.slice A q c) := (HB3.out.cell (p := ⟨g, 1, none⟩) (blk_lt HD0.out.blk)).trans k10
            clear ha hal hr2 hx2 hsv ev2
            refine hK.out _ _ trivial (fun hHeld => ?_)
            clear hK K
            (try simp only [Act.put, List.getElem_toArray, List.getElem_cons_zero, List.getElem_cons_succ, List.setIfInBounds_toArray, List.set_cons_zero, List.set_cons_succ])
            refine takeSome (i := 9) (v := ?_) (by decide +kernel) rfl (by rfl) (by decide +kernel) (by decide +kernel) (fun _ _ _ h => h) (by assumption) ?_ ?_
            rotate_left
            focus (intro w0 hSw; (try dsimp only at hSw); go_simp; (try (with_reducible rfl)); done)
            (try simp only [Act.put, List.getElem_toArray, List.getElem_cons_zero, List.getElem_cons_succ, List.setIfInBounds_toArray, List.set_cons_zero, List.set_cons_succ])
            refine wpAnyH_ready (rs := [10]) (by decide +kernel) (by simp) ?_
            refine AllReadyH.cons rfl (fun K hK => ?_) AllReadyH.nil
            (try simp only [List.getElem_toArray, List.getElem_cons_zero, List.getElem_cons_succ])
            go_simp
            (try rw [E3])
            refine hK.out _ _ trivial (fun hHeld => ?_)
            clear hK K
            (try simp only [Act.put, List.getElem_toArray, List.getElem_cons_zero, List.getElem_cons_succ, List.setIfInBounds_toArray, List.set_cons_zero, List.set_cons_succ])
            refine wpAnyH_ready (rs := [11]) (by decide +kernel) (by simp) ?_
            refine AllReadyH.cons rfl (fun K hK => ?_) AllReadyH.nil
            refine step_appW HL3.out HT3.out (j, x2) HX3.out HN3.out HEN.out HUL.out (by rfl) _ _ (by rfl) (Eq.trans (b := Value.slice A q c) (by rfl) HQV.out) 1 (by rfl) ?_; intro v5 w5 hr5 hg5 _
            refine hK.out _ _ ?_ (fun hHeld => ?_)
            focus ((try dsimp only); (try trivial); done)
            clear hK K
            (try simp only [Act.put, List.getElem_toArray, List.getElem_cons_zero, List.getElem_cons_succ, List.setIfInBounds_toArray, List.set_cons_zero, List.set_cons_succ])
            obtain ⟨A5, C5, e5⟩ := (hr5 (fun _ => True) (fun _ _ => trivial) (fun _ => trivial)).shape
            obtain ⟨q5, hq5⟩ : ∃ q, Hid ((U ++ [(j, x2)]).length = q) := ⟨_, Lib.hid rfl⟩
            rw [hq5.out] at e5
            subst e5
            refine takeSome (i := 12) (v := ?_) (by decide +kernel) rfl (by rfl) (by decide +kernel) (by decide +kernel) (fun _ _ _ h => h) (by assumption) ?_ ?_
            rotate_left
            focus (intro w0 hSw; (try dsimp only at hSw); go_simp; (try (with_reducible rfl)); done)
            (try simp only [Act.put, List.getElem_toArray, List.getElem_cons_zero, List.getElem_cons_succ, List.setIfInBounds_toArray, List.set_cons_zero, List.set_cons_succ])
            refine takeSome (i := 13) (v := ?_) (by decide +kernel) rfl (by rfl) (by decide +kernel) (by decide +kernel) (fun _ _ _ h => h) (by assumption) ?_ ?_
            rotate_left
            focus (intro w0 hSw; (try dsimp only at hSw); go_simp; (try (with_reducible rfl)); done)
            (try simp only [Act.put, List.getElem_toArray, List.getElem_cons_zero, List.getElem_cons_succ, List.setIfInBounds_toArray, List.set_cons_zero, List.set_cons_succ])
            have hbg := HD0.out.grown HB3.out hg5
            have k5 : w5.cell? ⟨g, 1, none⟩ = _ := blk_cell hbg 1
            have f5 := blk_frozen hbg 1
            have HR5 := Lib.hid hr5
            have HG5 := Lib.hid hg5
            clear hr5 hg5 hbg
            refine wpAnyH_ready (rs := [14]) (by decide +kernel) (by simp) ?_
            refine AllReadyH.cons rfl (fun K hK => ?_) AllReadyH.nil
            (try simp only [List.getElem_toArray, List.getElem_cons_zero, List.getElem_cons_succ])
            go_simp
            refine hK.out _ _ ?_ (fun hHeld => ?_)
            focus ((try dsimp only); (try trivial); done)
            clear hK K
            (try simp only [Act.put, List.getElem_toArray, List.getElem_cons_zero, List.getElem_cons_succ, List.setIfInBounds_toArray, List.set_cons_zero, List.set_cons_succ])
            refine wpAnyH_done (by decide +kernel) ?_ _
            go_wp2_with fail
            go_ret
            refine ⟨by rw [HP0.out.1]; rfl, ?_⟩
            rw [HP0.out.2, Int.toNat_natCast, ← (burn_log st).1, ← HX2.out]
            exact RkTo.trans (HF1.out.mono (fun k _ e => HK.out.nb k e)) (Ext.refl _ _) (RkTo.trans (Fr.of HU0.out) (Ext.refl _ _) (HD0.out.push (x := (j, x2)) HB3.out HX3.out HJ2.out HR5.out HG5.out))
          · skip
            refine step_appB HR1.out bs (some ad) cb HY1.out (fun e => by cases e) (by rw [HBL.out]; decide) (by rfl) _ _ (by rfl) (by rfl) (by rw [HBL.out]; rfl) ?_
            intro v2 w2 hr2
            rw [List.nil_append] at hr2
            obtain ⟨x2, ev, hx2, hsv⟩ := hr2.sv HBL.out
            have ev2 : x2.v = .slice x2.A 512 x2.cap := by unfold SV.v; rw [hx2, HBL.out]
            rw [ev2] at ev
            subst ev
            have HB2 := Lib.hid hr2.1
            have HX2 := Lib.hid hx2
            have HSV := Lib.hid hsv
            have k1w : w2.cell? ⟨g, 1, none⟩ = some (.slice A q c) := (HB2.out.cell (p := ⟨g, 1, none⟩) (blk_lt HD0.out.blk)).trans k10
            have ha := Below.alloc (Below.refl w2.heap.size w2) (Nat.le_refl _) (Obj.cells #[.int .i64 (j : Nat), .slice x2.A 512 x2.cap] 51 (0, 0))
            have hal := heap_alloc_new w2 (Obj.cells #[.int .i64 (j : Nat), .slice x2.A 512 x2.cap] 51 (0, 0))
            obtain ⟨u3, E3⟩ : ∃ u, w2.alloc (Obj.cells #[.int .i64 (j : Nat), .slice x2.A 512 x2.cap] 51 (0, 0)) = u := ⟨_, rfl⟩
            rw [E3] at ha hal
            have HB3 := Lib.hid (HB2.out.trans (ha.mono HB2.out.size))
            have HN3 := Lib.hid hal
            have HX3 : Hid (SvAt u3 (fun k => T k ∨ (u0.heap.size ≤ k ∧ k < u3.heap.size)) x2) := Lib.hid ((HSV.out (fun k => u0.heap.size ≤ k ∧ k < w2.heap.size) (fun k h1 h2 => ⟨h1, h2⟩)).on (fun k e => .inr ⟨e.1, by have := ha.size; have := e.2; omega⟩) (fun k h1 _ => ha.block k h1.2))
            have HEN := Lib.hid (show (#[.int .i64 (j : Nat), .slice x2.A 512 x2.cap] : Array Value).toList = encW (j, x2) by unfold encW; rw [ev2])
            have HT3 : Hid (Ter u3 (fun k => T k ∨ (u0.heap.size ≤ k ∧ k < u3.heap.size))) := Lib.hid (fun k e => e.elim (fun e => Nat.lt_of_lt_of_le (HD0.out.ter k e) HB3.out.size) (fun e => e.2))
            have HL3 := Lib.hid (HD0.out.row.on (W' := u3) (T' := fun k => T k ∨ (u0.heap.size ≤ k ∧ k < u3.heap.size)) (fun k e => .inl e) (fun k hk => HB3.out.block k (HD0.out.ter k hk)))
            have k13 : u3.cell? ⟨g, 1, none⟩ = some (.slice A q c) := (HB3.out.cell (p := ⟨g, 1, none⟩) (blk_lt HD0.out.blk)).trans k10
            clear ha hal hr2 hx2 hsv ev2
            refine hK.out _ _ trivial (fun hHeld => ?_)
            clear hK K
            (try simp only [Act.put, List.getElem_toArray, List.getElem_cons_zero, List.getElem_cons_succ, List.setIfInBounds_toArray, List.set_cons_zero, List.set_cons_succ])
            refine takeSome (i := 9) (v := ?_) (by decide +kernel) rfl (by rfl) (by decide +kernel) (by decide +kernel) (fun _ _ _ h => h) (by assumption) ?_ ?_
            rotate_left
            focus (intro w0 hSw; (try dsimp only at hSw); go_simp; (try (with_reducible rfl)); done)
            (try simp only [Act.put, List.getElem_toArray, List.getElem_cons_zero, List.getElem_cons_succ, List.setIfInBounds_toArray, List.set_cons_zero, List.set_cons_succ])
            refine wpAnyH_ready (rs := [4, 10]) (by decide +kernel) (by simp) ?_
            refine AllReadyH.cons rfl (fun K hK => ?_) (AllReadyH.cons rfl (fun K hK => ?_) AllReadyH.nil)
            · skip
              (try simp only [List.getElem_toArray, List.getElem_cons_zero, List.getElem_cons_succ])
              go_simp
              refine hK.out _ _ trivial (fun hHeld => ?_)
              clear hK K
              (try simp only [Act.put, List.getElem_toArray, List.getElem_cons_zero, List.getElem_cons_succ, List.setIfInBounds_toArray, List.set_cons_zero, List.set_cons_succ])
              refine wpAnyH_ready (rs := [10]) (by decide +kernel) (by simp) ?_
              refine AllReadyH.cons rfl (fun K hK => ?_) AllReadyH.nil
              (try simp only [List.getElem_toArray, List.getElem_cons_zero, List.getElem_cons_succ])
              go_simp
              (try rw [E3])
              refine hK.out _ _ trivial (fun hHeld => ?_)
              clear hK K
              (try simp only [Act.put, List.getElem_toArray, List.getElem_cons_zero, List.getElem_cons_succ, List.setIfInBounds_toArray, List.set_cons_zero, List.set_cons_succ])
              refine wpAnyH_ready (rs := [11]) (by decide +kernel) (by simp) ?_
              refine AllReadyH.cons rfl (fun K hK => ?_) AllReadyH.nil
              refine step_appW HL3.out HT3.out (j, x2) HX3.out HN3.out HEN.out HUL.out (by rfl) _ _ (by rfl) (Eq.trans (b := Value.slice A q c) (by rfl) HQV.out) 1 (by rfl) ?_; intro v5 w5 hr5 hg5 _
              refine hK.out _ _ ?_ (fun hHeld => ?_)
              focus ((try dsimp only); (try trivial); done)
              clear hK K
              (try simp only [Act.put, List.getElem_toArray, List.getElem_cons_zero, List.getElem_cons_succ, List.setIfInBounds_toArray, List.set_cons_zero, List.set_cons_succ])
              obtain ⟨A5, C5, e5⟩ := (hr5 (fun _ => True) (fun _ _ => trivial) (fun _ => trivial)).shape
              obtain ⟨q5, hq5⟩ : ∃ q, Hid ((U ++ [(j, x2)]).length = q) := ⟨_, Lib.hid rfl⟩
              rw [hq5.out] at e5
              subst e5
              refine takeSome (i := 12) (v := ?_) (by decide +kernel) rfl (by rfl) (by decide +kernel) (by decide +kernel) (fun _ _ _ h => h) (by assumption) ?_ ?_
              rotate_left
              focus (intro w0 hSw; (try dsimp only at hSw); go_simp; (try (with_reducible rfl)); done)
              (try simp only [Act.put, List.getElem_toArray, List.getElem_cons_zero, List.getElem_cons_succ, List.setIfInBounds_toArray, List.set_cons_zero, List.set_cons_succ])
              refine takeSome (i := 13) (v := ?_) (by decide +kernel) rfl (by rfl) (by decide +kernel) (by decide +kernel) (fun _ _ _ h => h) (by assumption) ?_ ?_
              rotate_left
              focus (intro w0 hSw; (try dsimp only at hSw); go_simp; (try (with_reducible rfl)); done)
              (try simp only [Act.put, List.getElem_toArray, List.getElem_cons_zero, List.getElem_cons_succ, List.setIfInBounds_toArray, List.set_cons_zero, List.set_cons_succ])
              have hbg := HD0.out.grown HB3.out hg5
              have k5 : w5.cell? ⟨g, 1, none⟩ = _ := blk_cell hbg 1
              have f5 := blk_frozen hbg 1
              have HR5 := Lib.hid hr5
              have HG5 := Lib.hid hg5
              clear hr5 hg5 hbg
              refine wpAnyH_ready (rs := [14]) (by decide +kernel) (by simp) ?_
              refine AllReadyH.cons rfl (fun K hK => ?_) AllReadyH.nil
              (try simp only [List.getElem_toArray, List.getElem_cons_zero, List.getElem_cons_succ])
              go_simp
              refine hK.out _ _ ?_ (fun hHeld => ?_)
              focus ((try dsimp only); (try trivial); done)
              clear hK K
              (try simp only [Act.put, List.getElem_toArray, List.getElem_cons_zero, List.getElem_cons_succ, List.setIfInBounds_toArray, List.set_cons_zero, List.set_cons_succ])
              refine wpAnyH_done (by decide +kernel) ?_ _
              go_wp2_with fail
              go_ret
              refine ⟨by rw [HP0.out.1]; rfl, ?_⟩
              rw [HP0.out.2, Int.toNat_natCast, ← (burn_log st).1, ← HX2.out]
              exact RkTo.trans (HF1.out.mono (fun k _ e => HK.out.nb k e)) (Ext.refl _ _) (RkTo.trans (Fr.of HU0.out) (Ext.refl _ _) (HD0.out.push (x := (j, x2)) HB3.out HX3.out HJ2.out HR5.out HG5.out))
            · skip
              (try simp only [List.getElem_toArray, List.getElem_cons_zero, List.getElem_cons_succ])
              go_simp
              (try rw [E3])
              refine hK.out _ _ trivial (fun hHeld => ?_)
              clear hK K
              (try simp only [Act.put, List.getElem_toArray, List.getElem_cons_zero, List.getElem_cons_succ, List.setIfInBounds_toArray, List.set_cons_zero, List.set_cons_succ])
              refine wpAnyH_ready (rs := [4]) (by decide +kernel) (by simp) ?_
              refine AllReadyH.cons rfl (fun K hK => ?_) AllReadyH.nil
              (try simp only [List.getElem_toArray, List.getElem_cons_zero, List.getElem_cons_succ])
              go_simp
              refine hK.out _ _ trivial (fun hHeld => ?_)
              clear hK K
              (try simp only [Act.put, List.getElem_toArray, List.getElem_cons_zero, List.getElem_cons_succ, List.setIfInBounds_toArray, List.set_cons_zero, List.set_cons_succ])
              refine wpAnyH_ready (rs := [11]) (by decide +kernel) (by simp) ?_
              refine AllReadyH.cons rfl (fun K hK => ?_) AllReadyH.nil
              refine step_appW HL3.out HT3.out (j, x2) HX3.out HN3.out HEN.out HUL.out (by rfl) _ _ (by rfl) (Eq.trans (b := Value.slice A q c) (by rfl) HQV.out) 1 (by rfl) ?_; intro v5 w5 hr5 hg5 _
              refine hK.out _ _ ?_ (fun hHeld => ?_)
              focus ((try dsimp only); (try trivial); done)
              clear hK K
              (try simp only [Act.put, List.getElem_toArray, List.getElem_cons_zero, List.getElem_cons_succ, List.setIfInBounds_toArray, List.set_cons_zero, List.set_cons_succ])
              obtain ⟨A5, C5, e5⟩ := (hr5 (fun _ => True) (fun _ _ => trivial) (fun _ => trivial)).shape
              obtain ⟨q5, hq5⟩ : ∃ q, Hid ((U ++ [(j, x2)]).length = q) := ⟨_, Lib.hid rfl⟩
              rw [hq5.out] at e5
              subst e5
              refine takeSome (i := 12) (v := ?_) (by decide +kernel) rfl (by rfl) (by decide +kernel) (by decide +kernel) (fun _ _ _ h => h) (by assumption) ?_ ?_
              rotate_left
              focus (intro w0 hSw; (try dsimp only at hSw); go_simp; (try (with_reducible rfl)); done)
              (try simp only [Act.put, List.getElem_toArray, List.getElem_cons_zero, List.getElem_cons_succ, List.setIfInBounds_toArray, List.set_cons_zero, List.set_cons_succ])
              refine takeSome (i := 13) (v := ?_) (by decide +kernel) rfl (by rfl) (by decide +kernel) (by decide +kernel) (fun _ _ _ h => h) (by assumption) ?_ ?_
              rotate_left
              focus (intro w0 hSw; (try dsimp only at hSw); go_simp; (try (with_reducible rfl)); done)
              (try simp only [Act.put, List.getElem_toArray, List.getElem_cons_zero, List.getElem_cons_succ, List.setIfInBounds_toArray, List.set_cons_zero, List.set_cons_succ])
              have hbg := HD0.out.grown HB3.out hg5
              have k5 : w5.cell? ⟨g, 1, none⟩ = _ := blk_cell hbg 1
              have f5 := blk_frozen hbg 1
              have HR5 := Lib.hid hr5
              have HG5 := Lib.hid hg5
              clear hr5 hg5 hbg
              refine wpAnyH_ready (rs := [14]) (by decide +kernel) (by simp) ?_
              refine AllReadyH.cons rfl (fun K hK => ?_) AllReadyH.nil
              (try simp only [List.getElem_toArray, List.getElem_cons_zero, List.getElem_cons_succ])
              go_simp
              refine hK.out _ _ ?_ (fun hHeld => ?_)
              focus ((try dsimp only); (try trivial); done)
              clear hK K
              (try simp only [Act.put, List.getElem_toArray, List.getElem_cons_zero, List.getElem_cons_succ, List.setIfInBounds_toArray, List.set_cons_zero, List.set_cons_succ])
              refine wpAnyH_done (by decide +kernel) ?_ _
              go_wp2_with fail
              go_ret
              refine ⟨by rw [HP0.out.1]; rfl, ?_⟩
              rw [HP0.out.2, Int.toNat_natCast, ← (burn_log st).1, ← HX2.out]
              exact RkTo.trans (HF1.out.mono (fun k _ e => HK.out.nb k e)) (Ext.refl _ _) (RkTo.trans (Fr.of HU0.out) (Ext.refl _ _) (HD0.out.push (x := (j, x2)) HB3.out HX3.out HJ2.out HR5.out HG5.out))
      · rw [hbo] at HS
        rw [hbo, dn_t, if_pos rfl] at HP0
        clear hbo
        go_enter Try.func29, Try.ntmps29
        go_wp2_with (first | (go_at_call 38; refine HF.out.mono ?_; rintro e' w' ⟨rfl, hwz⟩; have hwz := hwz.symm; subst hwz) | (go_at_call 35; refine HS.out.mono ?_; rintro e' w1 ⟨rfl, hd1, hf1⟩; have HD1 := Lib.hid hd1; have HF1 := Lib.hid hf1; clear hd1 hf1))
        go_ret
        exact ⟨by rw [HP0.out.1]; rfl, by rw [HP0.out.2]; exact ⟨HF1.out.mono (fun k _ e => HK.out.nb k e), T, Ext.refl _ _, HD1.out⟩⟩
    · have HP := Lib.hid (show writeE st i bs = 1 ∧ writeS st i bs = st from ⟨(if_neg (by rw [ho]; decide)).trans (if_pos (.inr hq)), (if_neg (by rw [ho]; decide)).trans (if_pos (.inr hq))⟩)
      have hq2 : ((bs.length : Int) != 512) = true := by rw [bne_iff_ne]; omega
      generalize bs.length = q at *
      clear h hB hlt ho hb hq hr
      go_enter Try.func29, Try.ntmps29
      go_wp2_with (go_at_call 38; refine HF.out.mono ?_; rintro e' w' ⟨rfl, hwz⟩; have hwz := hwz.symm; subst hwz)
      go_ret
      exact ⟨by rw [HP.out.1]; rfl, by rw [HP.out.2]; exact RkTo.refl HK.out⟩
  · have HP := Lib.hid (show writeE st i bs = readE st i ∧ writeS st i bs = st by
      by_cases ho : st.out = true
      · exact ⟨Eq.trans (b := 15) (if_pos ho) (Eq.symm (if_pos ho)), if_pos ho⟩
      · have hb : badAt st i := by
          by_cases hb : badAt st i
          · exact hb
          · exact absurd ((if_neg ho).trans (if_neg hb)) hr
        have hb2 : badAt st i ∨ bs.length ≠ 512 := .inl hb
        exact ⟨Eq.trans (b := 1) ((if_neg ho).trans (if_pos hb2)) (Eq.symm ((if_neg ho).trans (if_pos hb))), (if_neg ho).trans (if_pos hb2)⟩)
    generalize hq : readE st i = q at *
    have hb : (q != 0) = true := bne_iff_ne.2 hr
    clear h hr hq hB hlt
    go_enter Try.func29, Try.ntmps29
    go_wp2_with (go_at_call 38; refine HF.out.mono ?_; rintro e' w' ⟨rfl, hwz⟩; have hwz := hwz.symm; subst hwz)
    go_ret
    exact ⟨by rw [HP.out.1]; rfl, by rw [HP.out.2]; exact RkTo.refl HK.out⟩
end Go.Proofs.Ytngfffbnofejmaa
