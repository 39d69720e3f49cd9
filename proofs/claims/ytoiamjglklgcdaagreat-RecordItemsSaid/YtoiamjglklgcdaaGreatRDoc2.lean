/- Layer record: bytes of the call's own, and items, in regions that draw their order: one operation at a time. -/
import Derived.Test.YtoiamjglklgcdaaGreatRMem
import Derived.Test.YtoiamjglklgcdaaGreatREdg
import Derived.Test.YtoiamjglklgcdaaGreatGRef
import Derived.Laws.BytesString
namespace Go.Proofs.YtoiamjglklgcdaaGreat
open Go.RowKit Go.Lib
section
variable {P : Program} {md : Region.Mode} {ops : Array Oper} {Q : Exit → Act → World → Prop} {S : World → Prop}
theorem rZ (i : Nat) {oi : Oper} {fuel : Nat} {listed : Array Bool} {a : Act} {w : World}
  (h : ∀ K' : Act → World → Prop, Shut (∀ a w, S w → (S w → wpAnyH P md ops Q S fuel (listed.setIfInBounds i true) a w) → K' a w) → if Region.wanted oi (yielded ops a.tmps) = true then Oper.wp P oi a w K' Q else K' (a.put oi.dst undef) w)
  (hr : Region.ready md ops listed = [i] := by decide +kernel) (ho : ops[i]? = some oi := by rfl) : wpAnyH P md ops Q S (fuel + 1) listed a w :=
 wpAnyH_ready hr (List.cons_ne_nil _ _) (AllReadyH.cons ho h AllReadyH.nil)
end
theorem sZ (n : Nat) : ∃ s, Hid (n = s) := ⟨n, Lib.hid rfl⟩
theorem nZ {m n a b : Nat} (h : m ≤ n) (h1 : Hid (m = a)) (h2 : Hid (n = b)) : Hid (a ≤ b) := Lib.hid (h1.out ▸ h2.out ▸ h)
theorem lZ {w V : World} {o : Obj} {a b : Nat} (e : w.alloc o = V) (h1 : Hid (w.heap.size = a)) (h2 : Hid (V.heap.size = b)) : Hid (a < b) := by
 have h1 := h1.out; have h2 := h2.out; rw [← e, World.size_alloc] at h2; exact Lib.hid (by omega)
theorem bZ {w V : World} {o : Obj} (e : w.alloc o = V) : Below w.heap.size w V := by rw [← e]; exact (Below.refl _ w).alloc (Nat.le_refl _) _
theorem fZ (s n m : Nat) : Hid (∀ k, (Value.slice (some ⟨s, 0, none⟩) n m).ownBlock = some k → k = s) := fun _ h => (Option.some.inj h).symm
theorem gZ (q : Nat) : Hid (∀ g o, (some ⟨q, 0, none⟩ : Option Addr) = some ⟨g, o, none⟩ → g = q) := fun g o e => by cases e; rfl

theorem BRow.kept {w0 W W' : World} {v : Value} {l : List UInt8} {row : Option Nat} (h : BRow w0 v l W) (hg : W.grownBy W' row) (hb : Below w0.heap.size w0 W') (hne : v.ownBlock = Option.none ∨ v.ownBlock ≠ row) : BRow w0 v l W' := ⟨hb, h.2.kept hg hne⟩
theorem BRow.some {w0 W : World} {v : Value} {l : List UInt8} (h : BRow w0 v l W) (hl : 0 < l.length) : ∃ g c, v = .slice (Option.some ⟨g, 0, Option.none⟩) l.length c := by
 rcases h.2.2 with ⟨-, h0⟩ | ⟨g, cap, cur, rfl, -⟩
 ·omega
 ·exact ⟨g, cap, rfl⟩
theorem BRow.lit {w0 W : World} (hb : Below w0.heap.size w0 W) (cs : Array Value) (l : List UInt8) (hcs : cs.toList = byV l) (hm : l.length ≤ 1000000) : BRow w0 (.slice (Option.some ⟨W.heap.size, 0, Option.none⟩) l.length l.length) l (W.alloc (Obj.cells cs 5 (0, 0))) := by
 have hs : cs.size = l.length := by rw [← Array.length_toList, hcs, byV_len]
 refine ⟨hb.alloc hb.size _, by rw [byV_len, Nat.mul_one], .inr ⟨W.heap.size, l.length, cs, rfl, hb.size, heap_alloc_new W _, Nat.le_refl _, by unfold maxLen; omega, by omega, ?_⟩⟩
 rw [List.take_of_length_le (by rw [Array.length_toList, hs]; omega), hcs]
theorem BRow.bytesAt {w0 W : World} {A : Option Addr} {n c : Nat} {l : List UInt8} (h : BRow w0 (.slice A n c) l W) : BytesAt W A l.length l := by
 obtain ⟨A', c', e, hb, -⟩ := h.byT
 obtain ⟨rfl, -, -⟩ := Value.slice.inj e
 exact hb.bytes
theorem BRow.bt {w0 W : World} {A : Option Addr} {n c : Nat} {l : List UInt8} (h : BRow w0 (.slice A n c) l W) : ByT W A l ∧ l.length ≤ c ∧ c ≤ maxLen ∧ (A = Option.none → c = 0) := by
 obtain ⟨A', c', e, hb, h1, h2, h3⟩ := h.byT
 obtain ⟨rfl, -, rfl⟩ := Value.slice.inj e
 exact ⟨hb, h1, h2, h3⟩
theorem ByT.grow {W W' : World} {A : Option Addr} {s : List UInt8} {q : Option Nat} (h : ByT W A s) (hg : W.grownBy W' q) (hne : ∀ g o, A = some ⟨g, o, none⟩ → q ≠ some g) : ByT W' A s := fun h0 => by
 obtain ⟨g, o, cs, fr, e, hh, hc⟩ := h h0
 exact ⟨g, o, cs, fr, e, (hg.block g (blk_lt hh) (fun e' => hne g o e e'.symm)).trans hh, hc⟩
theorem step_app {w0 W : World} {v : Value} {l : List UInt8} (HR : BRow w0 v l W) (qs : List UInt8) (A : Option Addr) (c : Nat) (hq : BytesAt W A qs.length qs) (hnil : A = none → c = 0) (hb : l.length + qs.length ≤ 1000000000)
  {ops : Array Oper} {o : Oper} {a : Act} {K : Act → World → Prop} {Q : Exit → Act → World → Prop} {E : Prop} (hgd : o.guard = none) (s x : Operand)
  (ho : o.op = .call { callee := .builtin .append, args := #[s, x], argTypes := #[37, 37] })
  (hs : a.eval s = v) (hx : a.eval x = .slice A qs.length c)
  (h : ∀ v' w', BRow w0 v' (l ++ qs) w' → W.grownBy w' v.ownBlock → (v'.ownBlock = v.ownBlock ∨ v'.ownBlock = some W.heap.size) → K (a.put o.dst v') w') :
  if Region.wanted o (yielded ops a.tmps) = true then Oper.wp Tryz.prog o a W K Q else E := by
 have hw : Region.wanted o (yielded ops a.tmps) = true := by simp [Region.wanted, hgd]
 rw [if_pos hw]
 obtain ⟨i0, z, hi, hz0, hz1, hz2⟩ : ∃ i z, Tryz.prog.info? 5 = some i ∧ i.zero = some z ∧ i.size = 1 ∧ (i.bytes = 1 ∧ z.cells.size = 1) := by
  obtain ⟨i, h1, h2, h3, h4⟩ := info_parts infoB
  exact ⟨i, _, h1, h2, h3, h4, rfl⟩
 cases A with
 |none =>
  obtain rfl : qs = [] := by
   cases qs with
   |nil => rfl
   |cons p q => obtain ⟨_, _, e, _⟩ := hq (by simp); cases e
  obtain rfl := hnil rfl
  have hrun := run_append_owned_none (P := Tryz.prog) (w := W) w0.heap.size 37 o.type 5 i0 1 Tryz.underlying37 hi v l.length (byV l) HR.2
  have h' := h v W (by rw [List.append_nil]; exact HR) (World.grownBy.refl W _) (.inl rfl)
  unfold Oper.wp
  have hx' : a.eval x = .slice none 0 0 := hx
  simp [execOp, ho, resolve, invoke, builtin, hs, hx', hrun, Result.andThen]
  exact h'
 |some ad =>
  obtain ⟨v', w', hr, hown, hgrow, -, hat⟩ := run_append_own_at (P := Tryz.prog) W w0.heap.size 37 o.type 5 i0 z 1 1 Tryz.underlying37 hi hz0 hz1 hz2.1 hz2.2 (by decide) v l.length (byV l) HR.2 ad qs.length c (byV qs) (by rw [byV_len, Nat.mul_one]) (fun j u hu => by
   have hj : j < qs.length := by
    have := (List.getElem?_eq_some_iff.1 hu).1
    rwa [byV_len] at this
   obtain ⟨g, o', e, hc⟩ := hq (by omega)
   cases e
   rw [show (⟨g, o', none⟩ : Addr).add j = ⟨g, o' + j, none⟩ by simp [Addr.add], hc j hj, ← hu]
   simp [byV, List.getD_eq_getElem?_getD, List.getElem?_eq_getElem hj]) (fun u hu => by
   obtain ⟨y, _, rfl⟩ := List.mem_map.1 hu
   rfl) (by unfold maxLen; omega) (by omega) HR.1.size
  have hgb : Below w0.heap.size w0 w' := HR.1.grown hgrow HR.1.size (fun k hk => (HR.2.lt k hk).1)
  have h' := h v' w' ⟨hgb, by
   rw [List.length_append]
   have : byV (l ++ qs) = byV l ++ byV qs := by simp [byV]
   rw [this]
   exact hown⟩ hgrow hat
  unfold Oper.wp
  simp [execOp, ho, resolve, invoke, builtin, hs, hx, hr, Result.andThen]
  exact h'
theorem step_appI {w0 W : World} {v : Value} {l : List Itm} (HR : ItRow w0 v l W) (x : IV) (hx : ItAt W x) {g : Nat} {cs : Array Value} {t' : TypeId} (hg : W.heap[g]? = some (.cells cs t' (0, 0))) (hcs : cs.toList = encI x) (hn : l.length + 1 ≤ 1000000)
  {ops : Array Oper} {o : Oper} {a : Act} {K : Act → World → Prop} {Q : Exit → Act → World → Prop} {E : Prop} (hgd : o.guard = none) (s y : Operand)
  (ho : o.op = .call { callee := .builtin .append, args := #[s, y], argTypes := #[29, 29] })
  (hs : a.eval s = v) (c : Nat) (hy : a.eval y = .slice (some ⟨g, 0, none⟩) 1 c)
  (h : ∀ v' w', ItRow w0 v' (l ++ [x.it]) w' → KeepT 39 W w' → K (a.put o.dst v') w') :
  if Region.wanted o (yielded ops a.tmps) = true then Oper.wp Tryz.prog o a W K Q else E := by
 have hw : Region.wanted o (yielded ops a.tmps) = true := by simp [Region.wanted, hgd]
 rw [if_pos hw]
 obtain ⟨l', h1, h2, h3⟩ := HR
 obtain ⟨i0, z, hi, hz0, hz1, hz2, hz3⟩ := kindI.info
 have hl : l'.length = l.length := by rw [← h3, List.length_map]
 refine wp_append_own W s y 29 ho w0.heap.size 39 i0 z 2 48 Tryz.underlying29 hi hz0 hz1 hz2 hz3 (by decide) v l'.length (l'.flatMap encI) hs h1.2 ⟨g, 0, none⟩ 1 c (encI x) hy (by rw [kindI.len]) (fun j u hu => by rw [add_off, blk_cell hg, ← hu, ← hcs, Array.getElem?_toList]) (kindI.one x) (by unfold maxLen; omega) (by omega) h1.1.size ?_
 intro v' w' hown hgrow _
 have hk : KeepT 39 W w' := KeepT.grown h1.2 hgrow
 refine h v' w' ⟨l' ++ [x], ⟨grownB h1.1 (Nat.le_refl _) hgrow (fun k hk => (h1.2.lt k hk).1), ?_⟩, fun y hy => ?_, by rw [List.map_append, h3]; rfl⟩ hk
 ·rw [List.length_append, List.flatMap_append, List.flatMap_cons, List.flatMap_nil, List.append_nil]
  exact hown
 ·rcases List.mem_append.1 hy with hy | hy
  ·exact (h2 y hy).keep hk (by decide)
  ·rw [List.mem_singleton.1 hy]; exact hx.keep hk (by decide)
theorem app_block {x y : Option Nat} {s s' : Nat} {p : Nat → Prop} (ho : x = y ∨ x = some s) (hy : ∀ k, y = some k → p k) (hlt : ∀ k, x = some k → k < s') : ∀ k, x = some k → (p k ∨ k = s) ∧ k < s' := fun k h =>
 ⟨ho.imp (fun e => hy k (e.symm.trans h)) (fun e => Option.some.inj (h.symm.trans e)), hlt k h⟩
theorem apartO {x y : Option Nat} {p q : Nat → Prop} (hx : ∀ k, x = some k → p k) (hy : ∀ k, y = some k → q k) (h : ∀ k, p k → q k → False) : x = none ∨ x ≠ y := by
 cases hh : x with
 |none => exact .inl rfl
 |some k => exact .inr fun e => h k (hx k hh) (hy k e.symm)
end Go.Proofs.YtoiamjglklgcdaaGreat

namespace Go.Proofs.YtoiamjglklgcdaaGreat
open Go.RowKit Go.Lib

set_option maxHeartbeats 2000000 in
theorem dpoint_any {W : World} (p : Int × Int) (hp : Gd p) :
  Calls Tryz.prog 42 #[.agg #[.int .i64 p.1, .int .i64 p.2]] W fun e w' => ∃ v, e = .returned v ∧ BRow W v (pB8 p) w' := by
 unfold Gd at hp
 have HQ := (Hold.refl W).new #[.int .i64 p.1, .int .i64 p.2] 56
 obtain ⟨e1, l1⟩ := cN_wrap (x := p.1) (by omega)
 obtain ⟨e2, l2⟩ := cN_wrap (x := p.2) (by omega)
 have h1 := fun W1 : World => ref_PutNum (W := W1) (A := none) (c := 0) (s := []) ((cN p.1 : Nat) : Int) 4 (fun h => absurd h (by simp)) (fun _ => rfl) (by simp) (by omega)
 have h2 := fun (W2 : World) (A2 : Option Addr) (c2 : Nat) (hB2 : BytesAt W2 A2 (putL (cN p.1) 4).length (putL (cN p.1) 4)) (hn2 : A2 = none → c2 = 0) => ref_PutNum (A := A2) (c := c2) ((cN p.2 : Nat) : Int) 4 hB2 hn2 (by rw [putL_len]; omega) (by omega)
 rw [show putB [] ((cN p.1 : Nat) : Int) 4 = putL (cN p.1) 4 from putB_nat [] (cN p.1) 4 (by decide) (by decide) (by omega)] at h1
 rw [show putB (putL (cN p.1) 4) ((cN p.2 : Nat) : Int) 4 = pB8 p from putB_nat _ (cN p.2) 4 (by decide) (by decide) (by omega)] at h2
 have H1 := Lib.hid (fun W1 => (h1 W1 : Calls Tryz.prog 41 #[.slice none 0 0, .int .i64 ((cN p.1 : Nat) : Int), .int .i64 4] W1 _))
 have H2 := Lib.hid h2
 clear h1 h2 hp l1 l2
 generalize putL (cN p.1) 4 = t at *
 generalize pB8 p = u at *
 generalize cN p.1 = n1 at *
 generalize cN p.2 = n2 at *
 go_enter Tryz.func42, Tryz.ntmps42
 go_upto_region 1 with (fail)
 generalize (World.alloc _ _) = W1 at HQ ⊢
 obtain ⟨g0, hg0⟩ : ∃ g, W.heap.size = g := ⟨_, rfl⟩
 have HG0 := Lib.hid hg0
 rw [hg0] at HQ ⊢
 clear hg0
 have HB1 := Lib.hid HQ.1
 have HS := Lib.hid (fun W' (h : Below W1.heap.size W1 W') => (HQ.on h).pt (.head _))
 refine wp_region_held_drew (S := fun W' => W'.cell? ⟨g0, 0, none⟩ = some (.int .i64 p.1) ∧ W'.cell? ⟨g0, 1, none⟩ = some (.int .i64 p.2)) (by kernel_rfl) (HS.out _ (Below.refl _ W1).drew) (fun hHeld => ?_)
 clear HQ
 refine tZ 0 ?_; refine tZ 1 ?_; refine tZ 2 ?_; refine tZ 4 ?_; refine tZ 5 ?_; refine tZ 6 ?_
 refine wpAnyH_ready (rs := [3]) (by decide +kernel) (by simp) ?_
 refine AllReadyH.cons rfl (fun K hK => ?_) AllReadyH.nil
 (try simp only [jA, jB, jC])
 go_simp
 (go_at_call 41; refine (H1.out _).mono ?_; rintro e' w2 ⟨v2, rfl, hR2⟩; obtain ⟨A2, c2, rfl, hb2, -, -, hn2⟩ := hR2.byT; have HB2 := Lib.hid ((Below.refl _ W1).drew.trans hR2.1); have H3 := Lib.hid (H2.out w2 A2 c2 hb2.bytes hn2); clear hR2 hb2)
 refine hK.out _ _ ?_ (fun hHeld => ?_)
 focus ((try dsimp only); exact HS.out _ HB2.out; done)
 clear hK K
 (try simp only [Act.put, jA, jB, jC, jD, jE, jF])
 refine wpAnyH_ready (rs := [7]) (by decide +kernel) (by simp) ?_
 refine AllReadyH.cons rfl (fun K hK => ?_) AllReadyH.nil
 (try simp only [jA, jB, jC])
 go_simp
 (go_at_call 41; refine H3.out.mono ?_; rintro e' w3 ⟨v3, rfl, hR3⟩; have HB3 := Lib.hid (HB2.out.trans (hR3.1.mono HB2.out.size)); have HR3 := Lib.hid (hR3.base (HB1.out.trans (HB2.out.mono HB1.out.size))); clear hR3)
 refine hK.out _ _ ?_ (fun hHeld => ?_)
 focus ((try dsimp only); exact HS.out _ HB3.out; done)
 clear hK K
 (try simp only [Act.put, jA, jB, jC, jD, jE, jF])
 refine tZ 8 ?_
 refine wpAnyH_done (by decide +kernel) ?_ _
 go_wp2
 go_ret
 exact ⟨_, rfl, HR3.out⟩

theorem chk_succ {ps : List (Int × Int)} {k j : Nat} (hj : 16 * k + j < ps.length) : ptsB ((ps.drop (16 * k)).take (j + 1)) = ptsB ((ps.drop (16 * k)).take j) ++ pB8 ps[16 * k + j] := by
 have h : j < (ps.drop (16 * k)).length := by rw [List.length_drop]; omega
 unfold ptsB
 rw [List.take_succ_eq_append_getElem h, List.flatMap_append, List.getElem_drop]
 simp
set_option maxHeartbeats 2000000 in
theorem dchunk_any (ps : List (Int × Int)) (A : Option Addr) (cap : Nat) (k : Nat) (hk : 16 * k < ps.length) (hn : ps.length ≤ 1000) (hg : ∀ p ∈ ps, Gd p) (w : World) (hr : Pts w w.heap.size A ps) :
  Calls Tryz.prog 40 #[.slice A ps.length cap, .int .i64 (k : Nat)] w fun e w' => ∃ v, e = .returned v ∧ BRow w v (ptsB (chk ps k)) w' := by
 have HR := Lib.hid hr
 have HG := Lib.hid hg
 have HN := Lib.hid hn
 have w0 : IntKind.i64.wrap (16 * (k : Int)) = 16 * (k : Int) := IntWalk.i64_in _ (by omega)
 have w1 : IntKind.i64.wrap (16 * (k : Int) + 16) = 16 * (k : Int) + 16 := IntWalk.i64_in _ (by omega)
 clear hr hg
 go_enter Tryz.func40, Tryz.ntmps40
 go_wp2_with fail
 go_loopg [5, 6] 16 (fun g v i wr => ∃ j : Nat, j ≤ 16 ∧ 16 * k + j ≤ ps.length ∧ g = 16 - j ∧ i = .int .i64 (16 * (k : Int) + (j : Int)) ∧ BRow w v (ptsB ((ps.drop (16 * k)).take j)) wr)
 case atStart => exact ⟨0, by omega, by omega, rfl, by simp, BRow.none w⟩
 case round =>
  obtain ⟨j, hj, hjl, hgj, rfl, HV⟩ := hrel
  have HGK := Lib.hid hgj
  clear hgj
  have hfin : (¬ j < 16 ∨ ¬ 16 * k + j < ps.length) → (ps.drop (16 * k)).take j = chk ps k := fun h => by
   unfold chk
   rcases h with h | h
   ·rw [show j = 16 by omega]
   ·rw [List.take_of_length_le (by rw [List.length_drop]; omega), List.take_of_length_le (by rw [List.length_drop]; omega)]
  by_cases h1 : j < 16
  ·by_cases h2 : 16 * k + j < ps.length
   ·have c1 : 16 * (k : Int) + (j : Int) < 16 * (k : Int) + 16 := by omega
    have c2 : 16 * (k : Int) + (j : Int) < (ps.length : Int) := by omega
    have c3 : 0 ≤ 16 * (k : Int) + (j : Int) := by omega
    obtain ⟨ad, rfl, -, d0, d1⟩ := HR.out.at HV.1 h2
    have hT := Lib.hid (chk_succ h2)
    have hgp := HG.out ps[16 * k + j] (List.getElem_mem h2)
    have hl : (ptsB ((ps.drop (16 * k)).take j)).length ≤ 128 := by rw [ptsB_len, List.length_take]; omega
    have HL := Lib.hid hl
    have HP := Lib.hid (dpoint_any (W := wr) ps[16 * k + j] hgp)
    have hk0 : IntKind.i64.wrap (16 * (k : Int) + (j : Int) + 1) = 16 * (k : Int) + (j : Int) + 1 := IntWalk.i64_in _ (by omega)
    obtain ⟨m, hm⟩ : ∃ m : Nat, 16 * k + j = m := ⟨_, rfl⟩
    have em : 16 * (k : Int) + (j : Int) = (m : Int) := by omega
    rw [em] at c1 c2 c3 hk0 ⊢
    simp only [hm] at d0 d1 hT HP
    simp only [hm] at hgp
    generalize ps[m] = p at *
    generalize ptsB ((ps.drop (16 * k)).take j) = s at *
    clear hgp hl hfin h1
    go_wp2_with (first
     |(go_at_call 42; go_must ((with_reducible refine HP.out.mono ?_); rintro e' w3 ⟨v3, rfl, hR3⟩; obtain ⟨A3, c3', rfl, hb3, -, -, hn3⟩ := hR3.byT; have HB3 := Lib.hid hb3.bytes; have HN3 := Lib.hid hn3; have HV3 := Lib.hid (HV.on hR3.1); clear hR3 hb3 hn3))
     |(at_builtin; go_must (refine append_by HV3.out (pB8 p) A3 c3' HB3.out HN3.out (by have := HL.out; rw [pB8_len]; omega) rfl _ _ rfl rfl rfl ?_; rintro v4 w4 hR4; have HR4 := Lib.hid hR4; clear hR4)))
    go_roundg (16 - (j + 1))
    case measure => have := HGK.out; omega
    case rel => exact ⟨j + 1, by omega, by omega, rfl, by rw [← em]; congr 1 <;> omega, by rw [hT.out]; exact HR4.out⟩
   ·have c1 : 16 * (k : Int) + (j : Int) < 16 * (k : Int) + 16 := by omega
    have c2 : ¬ 16 * (k : Int) + (j : Int) < (ps.length : Int) := by omega
    rw [hfin (.inr h2)] at HV
    have HK := Lib.hid HV
    clear HV hfin h1 h2
    go_wp2
    go_ret
    exact ⟨_, rfl, HK.out⟩
  ·have c1 : ¬ 16 * (k : Int) + (j : Int) < 16 * (k : Int) + 16 := by omega
   rw [hfin (.inl h1)] at HV
   have HK := Lib.hid HV
   clear HV hfin h1
   go_wp2
   go_ret
   exact ⟨_, rfl, HK.out⟩
end Go.Proofs.YtoiamjglklgcdaaGreat

namespace Go.Proofs.YtoiamjglklgcdaaGreat
open Go.RowKit Go.Lib

theorem bytes_list (a : List UInt8) : (⟨a.toArray⟩ : ByteArray).toList = a := by
 rw [ByteArray.toList_eq]
def findTo (l : List Itm) (key : List UInt8) : Nat → Int
 |0 => -1
 |k + 1 => if (l.getD k ([], [])).1 = key then (k : Int) else findTo l key k
def findI (l : List Itm) (key : List UInt8) : Int := findTo l key l.length
theorem its_at {W : World} {A : Option Addr} {l : List IV} (h : ItsAt W A l) {k : Nat} (hk : k < l.length) : ∃ ad, A = some ad ∧ W.cell? (ad.add (k * 2)) = some (.slice l[k].kA l[k].key.length l[k].kc) ∧ W.cell? ⟨(ad.add (k * 2)).block, (ad.add (k * 2)).off + 1, none⟩ = some (.slice l[k].vA l[k].val.length l[k].vc) := by
 obtain ⟨ad, e, -, h0, h1⟩ := h.1.at kindI.len hk
 exact ⟨ad, e, h0 _ (by decide) rfl, h1 1 _ (by decide) (by decide) rfl⟩
theorem it_get (l : List IV) {k : Nat} (hk : k < l.length) : ((l.map IV.it).getD k ([], [])) = (l[k].key, l[k].val) := by
 rw [List.getD_eq_getElem?_getD, List.getElem?_map, List.getElem?_eq_getElem hk]; rfl
set_option maxRecDepth 100000 in
set_option maxHeartbeats 2000000 in
theorem find_any (l : List IV) (A : Option Addr) (c : Nat) (key : List UInt8) (B : Option Addr) (d : Nat) (hn : l.length ≤ 1000000) (w : World) (hl : ItsAt w A l) (hk : BytesAt w B key.length key) :
  Calls Tryz.prog 16 #[.slice A l.length c, .slice B key.length d] w fun e w' => e = .returned (.int .i64 (findI (l.map IV.it) key)) ∧ Below w.heap.size w w' := by
 have HL := Lib.hid (fun W (h : Below w.heap.size w W) => hl.on h)
 have HC2 := Lib.hid (fun W (h : Below w.heap.size w W) => conv_str (c := d) (hk.on h))
 have hw0 : IntKind.i64.wrap ((l.length : Int) - 1) = (l.length : Int) - 1 := IntWalk.i64_in _ (by omega)
 have HFI : Hid (findI (l.map IV.it) key = findTo (l.map IV.it) key l.length) := by unfold Hid findI; rw [List.length_map]
 clear hl hk
 go_enter Tryz.func16, Tryz.ntmps16
 go_wp2_with fail
 go_loopg [5] l.length (fun g i wr => ∃ k : Nat, k ≤ l.length ∧ g = k ∧ i = .int .i64 ((k : Int) - 1) ∧ Hid (findTo (l.map IV.it) key l.length = findTo (l.map IV.it) key k) ∧ Below w.heap.size w wr)
 case atStart => exact ⟨l.length, Nat.le_refl _, rfl, rfl, rfl, Below.refl _ _⟩
 case round =>
  obtain ⟨k, hk, hgk, rfl, HF, HB⟩ := hrel
  have HGK := Lib.hid hgk
  clear hgk
  cases k with
  |zero =>
   have HE : Hid (findI (l.map IV.it) key = -1) := by unfold Hid; rw [HFI.out, HF.out]; rfl
   have HB9 := Lib.hid HB
   clear HB HF HFI
   go_wp2
   go_ret
   exact ⟨by rw [HE.out]; rfl, HB9.out⟩
  |succ k =>
   have hlt : k < l.length := by omega
   have e1 : (((k + 1 : Nat) : Int) - 1) = (k : Int) := by omega
   have b0 : (0 : Int) ≤ (k : Int) := by omega
   have b1 : (k : Int) < (l.length : Int) := by omega
   have hk0 : IntKind.i64.wrap ((k : Int) - 1) = (k : Int) - 1 := IntWalk.i64_in _ (by omega)
   rw [e1]
   obtain ⟨ad, hA, -, -⟩ := its_at (HL.out _ HB) hlt
   have HS := Lib.hid (fun W (h : Below w.heap.size w W) => And.intro ((its_at (HL.out W h) hlt).choose_spec) (And.intro (conv_str (c := l[k].kc) ((HL.out W h).2 l[k] (List.getElem_mem hlt)).key.bytes) (HC2.out W h)))
   have HT : Hid (findTo (l.map IV.it) key (k + 1) = if l[k].key = key then (k : Int) else findTo (l.map IV.it) key k) := by
    unfold Hid
    show (if _ then _ else _) = _
    rw [it_get l hlt]
   subst hA
   have HS2 : Hid (∀ W, Below w.heap.size w W → W.cell? (ad.add (k * 2)) = some (.slice l[k].kA l[k].key.length l[k].kc) ∧ (convert 37 9 (.slice l[k].kA l[k].key.length l[k].kc)).run Tryz.prog W = .ok (.string ⟨l[k].key.toArray⟩) W ∧ (convert 37 9 (.slice B key.length d)).run Tryz.prog W = .ok (.string ⟨key.toArray⟩) W) := fun W h => by
    obtain ⟨ad', e, h0, -⟩ := its_at (HL.out W h) hlt
    obtain rfl := Option.some.inj e
    exact ⟨h0, (HS.out W h).2⟩
   clear HS e1
   have HBB := Lib.hid HB
   generalize l[k].kA = kA at *
   generalize l[k].kc = kc at *
   generalize l[k].key = q at *
   obtain ⟨s1, hs1⟩ : ∃ s : ByteArray, (⟨q.toArray⟩ : ByteArray) = s := ⟨_, rfl⟩
   obtain ⟨s2, hs2⟩ : ∃ s : ByteArray, (⟨key.toArray⟩ : ByteArray) = s := ⟨_, rfl⟩
   have hl1 : s1.toList = q := by rw [← hs1]; exact bytes_list q
   have hl2 : s2.toList = key := by rw [← hs2]; exact bytes_list key
   rw [hs1, hs2] at HS2
   clear hs1 hs2
   by_cases hq : q = key
   ·have hc : (s1.toList == s2.toList) = true := by rw [hl1, hl2, hq]; simp
    have HE : Hid (findI (l.map IV.it) key = (k : Int)) := by unfold Hid; rw [HFI.out, HF.out, HT.out, if_pos hq]
    clear HF HT HFI hl1 hl2 hq HB HL HC2
    go_upto_region 4 with (fail)
    refine wp_region_held_drew (S := fun W => W.cell? (ad.add (k * 2)) = some (.slice kA q.length kc) ∧ (convert 37 9 (.slice kA q.length kc)).run Tryz.prog W = .ok (.string s1) W ∧ (convert 37 9 (.slice B key.length d)).run Tryz.prog W = .ok (.string s2) W) (by kernel_rfl) (HS2.out _ HBB.out.drew) (fun hHeld => ?_)
    refine tZ 0 ?_; refine tZ 1 ?_; refine tZ 2 ?_; refine tZ 3 ?_; refine tZ 4 ?_; refine tZ 5 ?_; refine tZ 6 ?_; refine tZ 7 ?_; refine tZ 8 ?_
    refine wpAnyH_done (by decide +kernel) ?_ _
    go_wp2
    go_ret
    exact ⟨by rw [HE.out]; rfl, HBB.out.drew⟩
   ·have hc : (s1.toList == s2.toList) = false := by rw [hl1, hl2]; simpa using hq
    have HE : Hid (findTo (l.map IV.it) key l.length = findTo (l.map IV.it) key k) := by unfold Hid; rw [HF.out, HT.out, if_neg hq]
    clear HF HT hl1 hl2 hq HB
    go_upto_region 4 with (fail)
    refine wp_region_held_drew (S := fun W => W.cell? (ad.add (k * 2)) = some (.slice kA q.length kc) ∧ (convert 37 9 (.slice kA q.length kc)).run Tryz.prog W = .ok (.string s1) W ∧ (convert 37 9 (.slice B key.length d)).run Tryz.prog W = .ok (.string s2) W) (by kernel_rfl) (HS2.out _ HBB.out.drew) (fun hHeld => ?_)
    refine tZ 0 ?_; refine tZ 1 ?_; refine tZ 2 ?_; refine tZ 3 ?_; refine tZ 4 ?_; refine tZ 5 ?_; refine tZ 6 ?_; refine tZ 7 ?_; refine tZ 8 ?_
    refine wpAnyH_done (by decide +kernel) ?_ _
    go_wp2
    go_roundg k
    case measure => have := HGK.out; omega
    case rel => exact ⟨k, by omega, rfl, rfl, HE.out, HBB.out.drew⟩
set_option maxRecDepth 100000 in
set_option maxHeartbeats 2000000 in
theorem rising_good (l : List IV) (A : Option Addr) (c : Nat) (hn : l.length ≤ 1000000) (hs : (l.map IV.it).Pairwise KeyLt) (w : World) (hl : ItsAt w A l) :
  Calls Tryz.prog 15 #[.slice A l.length c] w fun e w' => e = .returned (.bool true) ∧ Below w.heap.size w w' := by
 have HL := Lib.hid (fun W (h : Below w.heap.size w W) => hl.on h)
 have HP := Lib.hid hs
 clear hl hs
 go_enter Tryz.func15, Tryz.ntmps15
 go_wp2_with fail
 go_loopg [3] l.length (fun g i wr => ∃ k : Nat, k ≤ l.length ∧ g = l.length - k ∧ i = .int .i64 ((k : Int) + 1) ∧ Below w.heap.size w wr)
 case atStart => exact ⟨0, Nat.zero_le _, rfl, rfl, Below.refl _ _⟩
 case round =>
  obtain ⟨k, hk, hgk, rfl, HB⟩ := hrel
  have HGK := Lib.hid hgk
  have HBB := Lib.hid HB
  clear hgk
  by_cases hlt : k + 1 < l.length
  ·have b0 : (0 : Int) ≤ (k : Int) := by omega
   have b1 : (k : Int) + 1 < (l.length : Int) := by omega
   have b2 : (k : Int) < (l.length : Int) := by omega
   have b3 : (0 : Int) ≤ (k : Int) + 1 := by omega
   have hk0 : IntKind.i64.wrap ((k : Int) + 1 - 1) = (k : Int) := by rw [show (k : Int) + 1 - 1 = (k : Int) by omega]; exact IntWalk.i64_in _ (by omega)
   have hk1 : IntKind.i64.wrap ((k : Int) + 1 + 1) = (k : Int) + 1 + 1 := IntWalk.i64_in _ (by omega)
   have hkk : k < l.length := by omega
   obtain ⟨ad, hA, -, -⟩ := its_at (HL.out _ HB) hlt
   have hbl : bl l[k].key l[k + 1].key = true := by
    have := List.pairwise_iff_getElem.1 HP.out k (k + 1) (by simpa using hkk) (by simpa using hlt) (by omega)
    simpa [IV.it] using this
   subst hA
   have HS2 : Hid (∀ W, Below w.heap.size w W → W.cell? (ad.add (k * 2)) = some (.slice l[k].kA l[k].key.length l[k].kc) ∧ W.cell? (ad.add ((k + 1) * 2)) = some (.slice l[k + 1].kA l[k + 1].key.length l[k + 1].kc) ∧ (convert 37 9 (.slice l[k].kA l[k].key.length l[k].kc)).run Tryz.prog W = .ok (.string ⟨l[k].key.toArray⟩) W ∧ (convert 37 9 (.slice l[k + 1].kA l[k + 1].key.length l[k + 1].kc)).run Tryz.prog W = .ok (.string ⟨l[k + 1].key.toArray⟩) W) := fun W h => by
    obtain ⟨ad', e, h0, -⟩ := its_at (HL.out W h) hkk
    obtain rfl := Option.some.inj e
    obtain ⟨ad', e, h1, -⟩ := its_at (HL.out W h) hlt
    obtain rfl := Option.some.inj e
    exact ⟨h0, h1, conv_str ((HL.out W h).2 l[k] (List.getElem_mem hkk)).key.bytes, conv_str ((HL.out W h).2 l[k + 1] (List.getElem_mem hlt)).key.bytes⟩
   generalize l[k].kA = kA at *
   generalize l[k].kc = kc at *
   generalize l[k].key = q at *
   generalize l[k + 1].kA = kA' at *
   generalize l[k + 1].kc = kc' at *
   generalize l[k + 1].key = q' at *
   obtain ⟨s1, hs1⟩ : ∃ s : ByteArray, (⟨q.toArray⟩ : ByteArray) = s := ⟨_, rfl⟩
   obtain ⟨s2, hs2⟩ : ∃ s : ByteArray, (⟨q'.toArray⟩ : ByteArray) = s := ⟨_, rfl⟩
   have hc : Go.Op.bytesLess s1.toList s2.toList = true := by rw [← hs1, ← hs2, bytes_list, bytes_list]; exact hbl
   rw [hs1, hs2] at HS2
   obtain ⟨j, hj⟩ : ∃ j : Nat, k + 1 = j := ⟨_, rfl⟩
   have ej : (k : Int) + 1 = (j : Int) := by omega
   have HJ := Lib.hid hj
   rw [ej] at b1 b3 hk0 hk1 ⊢
   rw [hj] at HS2
   clear hs1 hs2 hbl HB ej hj hlt hkk
   go_upto_region 4 with (fail)
   refine wp_region_held_drew (S := fun W => W.cell? (ad.add (k * 2)) = some (.slice kA q.length kc) ∧ W.cell? (ad.add (j * 2)) = some (.slice kA' q'.length kc') ∧ (convert 37 9 (.slice kA q.length kc)).run Tryz.prog W = .ok (.string s1) W ∧ (convert 37 9 (.slice kA' q'.length kc')).run Tryz.prog W = .ok (.string s2) W) (by kernel_rfl) (HS2.out _ HBB.out.drew) (fun hHeld => ?_)
   refine tZ 0 ?_; refine tZ 1 ?_; refine tZ 2 ?_; refine tZ 3 ?_; refine tZ 4 ?_; refine tZ 5 ?_; refine tZ 6 ?_; refine tZ 7 ?_; refine tZ 8 ?_; refine tZ 9 ?_; refine tZ 10 ?_; refine tZ 11 ?_; refine tZ 12 ?_; refine tZ 13 ?_
   refine wpAnyH_done (by decide +kernel) ?_ _
   go_wp2
   go_roundg (l.length - j)
   case measure => have := HGK.out; have := HJ.out; omega
   case rel => exact ⟨j, by have := HJ.out; omega, rfl, rfl, HBB.out.drew⟩
  ·have b1 : ¬ (k : Int) + 1 < (l.length : Int) := by omega
   clear HB
   go_wp2
   go_ret
   exact ⟨rfl, HBB.out⟩
end Go.Proofs.YtoiamjglklgcdaaGreat
