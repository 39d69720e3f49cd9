/- Pairs of an index: the keys of a map of pairs, all pairs of parcels with an edge in common, the library's sorting of pairs. -/
import Derived.Test.YtoabooljgojoiaaGreatPgH
import Derived.Test.YtoabooljgojoiaaGreatQRows
import Derived.Test.YtoabooljgojoiaaGreatQIdx
import Derived.Test.YtoabooljgojoiaaGreatShelfS
/- The library's Keys and Collect at a map of pairs: all its keys, in some order, in a slice of the call's own. -/
namespace Go.Proofs.YtoabooljgojoiaaGreat
open Go.RowKit Go.Shelf
attribute [local go_sem] Oper.semAt_some

theorem kindR : Kind 54 encP 2 16 := Kind.mk' (z := .agg #[.int .i64 0, .int .i64 0]) (fun _ => rfl) (fun a u hu => by
 simp only [encP, List.mem_cons, List.not_mem_nil, or_false] at hu
 rcases hu with rfl | rfl <;> rfl) (by decide) (by kernel_rfl) rfl
set_option maxRecDepth 100000 in
set_option maxHeartbeats 1000000 in
theorem keys1Q_in (F : Fence) (n : Nat) (hf : F.fn 75) (hro : F.round = none) (hn : 1 ≤ n) (l Bm b : Nat) (L : List ((Int × Int) × Int)) (J Jx : List (Int × Int) → World → Prop)
  (hY : ∀ pre x W, J pre W → pre.length < L.length → YieldAt F (n - 1) Tryz.prog l #[pv x] W fun e W' =>
   (e = .returned (.bool true) ∧ J (pre ++ [x]) W' ∧ KeepsWalks W W') ∨ (e = .returned (.bool false) ∧ Jx (pre ++ [x]) W'))
  (W : World) (hJ : AbidesFrom W.heap.size J) (hm : W.cell? ⟨Bm, 0, none⟩ = some (.map (some b))) (hown : MapIs W b pv iv OkP L) (h0 : J [] W) :
  CallsIn F n Tryz.prog 75 #[.func (.yield l) #[] #[], .pointer (some ⟨Bm, 0, none⟩)] W fun e W' => (∃ v, e = .returned v) ∧
   ((∃ ys, ys.Perm (L.map Prod.fst) ∧ J ys W') ∨ (∃ pre, Jx pre W')) := by
 refine callsIn_of_wp Tryz.func75 rfl hf ?_ hro
 simp only [Tryz.ntmps75, List.size_toArray, List.length_cons, List.length_nil, Nat.reduceAdd, Nat.reduceSub, Array.replicate_succ, Array.replicate_zero, List.push_toArray, List.append_toArray, List.nil_append, List.cons_append]
 gi_wp2_with (gi_at_range; refine wpIn_range rfl _ 89 rfl 54 3 Tryz.underlying89 b rfl hown ?_; intro w0 hrg0 hg0 hs0)
 go_frame
 have hJ0 := hJ [] W w0 none h0 hg0 (fun r e => by cases e)
 gi_loopw [3] (fun _ wr => ∃ left ys, Ranges wr b W.heap.size pv iv OkP L left ∧ (ys ++ left.map Prod.fst).Perm (L.map Prod.fst) ∧ J ys wr) (fun _ wr => wr.rangeLeft b W.heap.size)
 case atStart => exact ⟨L, [], hrg0, List.Perm.refl _, hJ0⟩
 case round =>
  obtain ⟨left, ys, hrg, hP, hJs⟩ := hrel
  have HRS := Lib.hid hrg
  have HP := Lib.hid hP
  clear hrg hP
  gi_wp2_with (
   (gi_at_next; refine wpIn_next rfl _ rfl W.heap.size rfl HRS.out ?_ (fun l1 p l2 W5 hl hrg hg5 hs5 hen => ?_); rotate_left; (simp only [pv, iv] at hen ⊢); (have HL := Lib.hid hl); (have HRG := Lib.hid hrg); (have HG5 := Lib.hid hg5); clear hl hrg hg5 hs5; rotate_left))
  ·intro hnil
   have HPN : Hid (ys.Perm (L.map Prod.fst)) := by have := HP.out; rw [hnil] at this; unfold Hid; simpa using this
   clear hnil
   gi_wp2
   go_end0
   exact ⟨⟨_, rfl⟩, .inl ⟨ys, HPN.out, hJs⟩⟩
  ·obtain ⟨e, m⟩ := p
   have hlen : ys.length < L.length := by
    have h1 := HP.out.length_eq
    rw [List.length_append, List.length_map, List.length_map, HL.out, List.length_append, List.length_cons] at h1
    omega
   have hJ5 := hJ ys wr W5 (some W.heap.size) hJs HG5.out (fun r e => by cases e; exact ⟨Nat.le_refl _, HRS.out.walk⟩)
   have hJ6 := hJ ys W5 (W5.alloc (Obj.cells #[Value.int IntKind.i64 e.1, Value.int IntKind.i64 e.2] 54)) none hJ5 (World.grownBy_alloc _ _ _) (fun r e => by cases e)
   have hR6 := HRG.out.alloc (Obj.cells #[Value.int IntKind.i64 e.1, Value.int IntKind.i64 e.2] 54)
   obtain ⟨fn, tmps, assign, body, hy, hR⟩ := hY ys e _ hJ6 hlen
   simp only [pv] at hy
   have HLN : Hid ((l1 ++ l2).length < left.length) := by unfold Hid; rw [HL.out]; simp
   have HP1 : Hid (((ys ++ [e]) ++ (l1 ++ l2).map Prod.fst).Perm (L.map Prod.fst)) := by
    refine List.Perm.trans ?_ HP.out
    rw [HL.out, List.append_assoc]
    refine List.Perm.append_left ys ?_
    rw [List.map_append, List.map_append, List.map_cons]
    show (e :: (l1.map Prod.fst ++ l2.map Prod.fst)).Perm (l1.map Prod.fst ++ e :: l2.map Prod.fst)
    exact List.perm_middle.symm
   gi_wp2
   refine hR.mono ?_
   rintro e' W3 (⟨rfl, hJ3, hk3⟩ | ⟨rfl, hJx3⟩)
   ·have HR3 := Lib.hid (hR6.of_walks hk3)
    clear hR6 hy hR
    gi_wp2
    go_roundw
    case rel => exact ⟨l1 ++ l2, ys ++ [e], HR3.out, HP1.out, hJ3⟩
    case measure => rw [HR3.out.left_eq, HRS.out.left_eq]; exact HLN.out
   ·clear hR6 hy hR
    gi_wp2
    refine bodyPost_ret (results_none rfl _ _ _) rfl ?_
    exact ⟨⟨_, rfl⟩, .inr ⟨_, hJx3⟩⟩
theorem keysQ_stops (F : Fence) (n : Nat) (hf : F.fn 75) (hro : F.round = none) (hn : 1 ≤ n) (Bm b : Nat) (L : List ((Int × Int) × Int)) (w : World) (hBm : Bm < w.heap.size)
  (hm : w.cell? ⟨Bm, 0, none⟩ = some (.map (some b))) (hown : MapIs w b pv iv OkP L) :
  SeqStopsK F n Tryz.prog 75 #[.pointer (some ⟨Bm, 0, none⟩)] (fun x : (Int × Int) => #[pv x]) KeepsWalks (fun ys => ys.Perm (L.map Prod.fst)) (fun _ => True) L.length w := fun l J Jx W hW hJ _ hY h0 =>
 (keys1Q_in F n hf hro hn l Bm b L J Jx hY W hJ ((hW.cell (p := ⟨Bm, 0, none⟩) hBm).trans hm) (hown.on hW hown.lt) h0).mono fun _ _ ⟨h1, h2⟩ => ⟨h1, h2.imp id (fun ⟨pre, h⟩ => ⟨pre, trivial, h⟩)⟩
theorem keysQ_in (F : Fence) (n : Nat) (hf : F.fn 40) (hro : F.round = none) (mb : Option Nat) (w : World) :
  CallsIn F n Tryz.prog 40 #[.map mb] w fun e w' => e = .returned (.func (.func 75) #[] #[.pointer (some ⟨w.heap.size, 0, none⟩)]) ∧ w' = w.alloc (.cells #[.map mb] 89) := by
 refine callsIn_of_wp Tryz.func40 rfl hf ?_ hro
 simp only [Tryz.ntmps40, List.size_toArray, List.length_cons, List.length_nil, Nat.reduceAdd, Nat.reduceSub, Array.replicate_succ, Array.replicate_zero, List.push_toArray, List.append_toArray, List.nil_append, List.cons_append]
 gi_wp2
 go_ret
 exact ⟨rfl, rfl⟩
theorem keysQ_any (mb : Option Nat) (w : World) :
  Calls Tryz.prog 40 #[.map mb] w fun e w' => e = .returned (.func (.func 75) #[] #[.pointer (some ⟨w.heap.size, 0, none⟩)]) ∧ w' = w.alloc (.cells #[.map mb] 89) :=
 (callsIn_wide (n := 3)).1 (keysQ_in Fence.wide 3 trivial rfl mb w)

set_option maxRecDepth 100000 in
set_option maxHeartbeats 2000000 in
theorem appendSeqQ_in (n : Nat) (hn : 4 ≤ n) (Bm b : Nat) (L : List ((Int × Int) × Int)) (hL : L.length ≤ 1000000) (w : World) (hBm : Bm < w.heap.size) (hm : w.cell? ⟨Bm, 0, none⟩ = some (.map (some b))) (hown : MapIs w b pv iv OkP L) :
  CallsIn Fence.wide n Tryz.prog 111 #[.slice none 0 0, .func (.func 75) #[] #[.pointer (some ⟨Bm, 0, none⟩)]] w fun e w' => ∃ v ys, e = .returned v ∧ ys.Perm (L.map Prod.fst) ∧ RowI w 54 2 encP v ys w' := by
 have h1 : 1 ≤ n := by omega
 refine callsIn_of_wp_marks Tryz.func111 rfl trivial ?_ rfl
 simp only [Tryz.ntmps111, List.size_toArray, List.length_cons, List.length_nil, Nat.reduceAdd, Nat.reduceSub, Array.replicate_succ, Array.replicate_zero, List.push_toArray, List.append_toArray, List.nil_append, List.cons_append]
 obtain ⟨i0, hi, hz0, hz1, hz2⟩ := info_parts (show (Tryz.prog.info? 54).map (fun i => (i.zero, i.size, i.bytes)) = some (some (.agg #[.int .i64 0, .int .i64 0]), 2, 16) by kernel_rfl)
 gi_wp2
 have hBx : Boxed (w.alloc (Obj.cells #[.slice none 0 0] 48)) w.heap.size 48 (.slice none 0 0) := Boxed.new w _ _
 have hb0 : Below w.heap.size w (w.alloc (Obj.cells #[.slice none 0 0] 48)) := (Below.refl _ w).alloc (Nat.le_refl _) _
 have hsz : w.heap.size < (w.alloc (Obj.cells #[.slice none 0 0] 48)).heap.size := by simp
 have hseq := keysQ_stops Fence.wide (n - 1) trivial rfl (by omega) Bm b L w hBm hm hown
 generalize (w.alloc (Obj.cells #[.slice none 0 0] 48)) = W0 at hBx hb0 hsz ⊢
 refine wpIn_rangeFunc_ownH rfl h1 (gf := 75) (lb := #[.pointer (some ⟨Bm, 0, none⟩)]) rfl trivial (enters_of Tryz.func75 (by kernel_rfl) rfl)
  hseq walksK_t walksK_b hb0 (fun _ => rfl)
  (fun pre W => (∃ v, Boxed W w.heap.size 48 v ∧ W.ownsRow w.heap.size 54 2 v pre.length (pre.flatMap encP) ∧ True) ∧ Below w.heap.size w W)
  (fun _ _ _ => False)
  (OwnFrom.and (Own.from (holdsRow_own w.heap.size w.heap.size 48 54 2 (fun pre : List (Int × Int) => pre.length) (fun pre => pre.flatMap encP) (fun _ _ => True)) _) (ownFrom_below (Nat.le_refl _) (by omega)))
  (fun _ _ _ _ _ hs _ _ => hs)
  ⟨⟨_, hBx, World.ownsRow_nil _ _ _ _, trivial⟩, hb0⟩
  (fun x a' W => ∃ Bx, W.heap[Bx]? = some (Obj.cells #[.int .i64 x.1, .int .i64 x.2] 54 (0, 0)) ∧ a' = { tmps := #[.slice none 0 0, .func (.func 75) #[] #[.pointer (some ⟨Bm, 0, none⟩)], .pointer (some ⟨w.heap.size, 0, none⟩), undef, .slice none 0 0, .pointer (some ⟨Bx, 0, none⟩), .func (.func 75) #[] #[.pointer (some ⟨Bm, 0, none⟩)], pv x, undef, undef, undef, undef, undef], defers := [] })
  (fun x a' _ X Y row hs hg hr => by
   obtain ⟨Bx, h1, h2⟩ := hs
   exact ⟨Bx, (hg.block _ (blk_lt h1) (fun e => by
    obtain ⟨-, o, ho, hc⟩ := hr _ e.symm
    rw [h1] at ho; cases ho; cases hc)).trans h1, h2⟩)
  ?assign ?body ?done ?stop
 case assign =>
  rintro l pre x W K ⟨⟨v, hv, hr, _⟩, hB⟩ hK
  unfold pv
  gi_wp2
  have hb := (Below.refl W.heap.size W).alloc (Nat.le_refl _) (Obj.cells #[.int .i64 x.1, .int .i64 x.2] 54 (0, 0))
  exact hK _ _ (KeepsFrom.of_below hb) (KeepsWalks.alloc _ _) ⟨⟨v, hv.alloc _, (hr.alloc _), trivial⟩, hB.alloc hB.size _⟩ ⟨W.heap.size, heap_alloc_new _ _, rfl⟩
 case body =>
  rintro l pre x a' W hl ⟨r, hr'⟩ ⟨⟨v, hv, hrow, _⟩, hB⟩ ⟨Bx, hX, rfl⟩ hlt2
  have x0 := blk_cell hX 0
  have x1 := blk_cell hX 1
  simp only [List.getElem?_toArray, List.getElem?_cons_zero, List.getElem?_cons_succ] at x0 x1
  have hcv := hv.cell
  gi_wp2_with (gi_at_builtin; go_must (refine wpListIn_append_own _ rfl _ _ 48 rfl w.heap.size 54 i0 (.agg #[.int .i64 0, .int .i64 0]) 2 16 Tryz.underlying48 hi hz0 hz1 hz2 rfl (by decide) v _ _ rfl (hrow.alloc _) ⟨W.heap.size, 0, none⟩ 1 1 (encP x) rfl rfl (fun j u hu => by rw [add_off, blk_cell (heap_alloc_new _ _), ← hu]; simp [encP]) (kindR.one x) (by unfold maxLen; omega) (by omega) (by have := hB.size; simp; omega) ?_; intro v' w5 hown5 hgrow5 _; obtain ⟨g', cap', rfl⟩ := ownsRow_succ hown5; obtain ⟨hv1, hv2, hr2, hk2, hb2⟩ := hv.appended (show (48 : Nat) ≠ 54 by decide) hrow hB.size (Nat.le_refl _) hown5 hgrow5; have hc1 := hv1.cell; have hf1 := hv1.frozen))
  refine ⟨hk2.from _, ⟨hk2.size, fun k o hk hw => hk2.same k o hk (by cases o <;> first | rfl | cases hw)⟩, ⟨⟨_, hv2, ?_, trivial⟩, Below.trans hB hb2⟩⟩
  rw [List.length_append, List.flatMap_append, List.flatMap_cons, List.flatMap_nil, List.append_nil]
  exact hr2
 case done =>
  rintro D ys W hD hP ⟨⟨v, hv, hrow, _⟩, hB⟩ hK
  have hcv := hv.cell
  gi_wp2
  refine ⟨by simp, .inl ⟨_, _, rfl, run_takeDeferred hK, ?_⟩⟩
  exact ⟨_, results_tmp rfl _ _ _, v, ys, rfl, hP, Below.trans hB (belowK_b (w := w) (Nat.le_refl _) W D _ _ (by omega) hK rfl rfl), ownsRow_putObj hrow _ hK rfl⟩
 case stop =>
  rintro D c pre W _ _ h _
  exact h.elim
set_option maxHeartbeats 1000000 in
theorem collectQ_any (Bm b : Nat) (L : List ((Int × Int) × Int)) (hL : L.length ≤ 1000000) (w : World) (hBm : Bm < w.heap.size) (hm : w.cell? ⟨Bm, 0, none⟩ = some (.map (some b))) (hown : MapIs w b pv iv OkP L) :
  Calls Tryz.prog 73 #[.func (.func 75) #[] #[.pointer (some ⟨Bm, 0, none⟩)]] w fun e w' => ∃ v ys, e = .returned v ∧ ys.Perm (L.map Prod.fst) ∧ RowI w 54 2 encP v ys w' := by
 have HA := Lib.hid ((callsIn_wide (n := 6)).1 (appendSeqQ_in 6 (by omega) Bm b L hL w hBm hm hown))
 clear hm hown
 go_enter Tryz.func73, Tryz.ntmps73
 go_wp2_with (go_at_call 111; go_must (refine HA.out.mono ?_; rintro e w' ⟨v, ys, rfl, hp, hr⟩; have HP := Lib.hid hp; have HR := Lib.hid hr; clear hp hr))
 go_ret
 exact ⟨v, ys, rfl, HP.out, HR.out⟩
end Go.Proofs.YtoabooljgojoiaaGreat

namespace Go.Proofs.YtoabooljgojoiaaGreat
open Go.RowKit

theorem cellsPr : Tryz.prog.cellsOf 54 = 2 := by kernel_rfl
theorem keyR : KeyK 54 pv OkP where
 K := Go.Maps.Keyed.of_law (deep_law_laid laidOut (m := 4) (by omega) (of_decide_eq_true (by kernel_rfl)) (by kernel_rfl) (by rw [Tryz.underlying54]))
 lit a ha := by
  have hk : Tryz.prog.keyType 54 = true := by kernel_rfl
  obtain ⟨d, hd⟩ : ∃ d, Tryz.prog.types.size + 1 = d + 3 := ⟨Tryz.prog.types.size - 2, by have := manyTypes; omega⟩
  have w1 := wf64 ha.1
  have w2 := wf64 ha.2
  refine ⟨_, by
   unfold keyOf
   rw [Tryz.underlying54]
   simp only [hk, hd]
   simp [Program.keyLits, Value.formed, Tryz.underlying54, Tryz.underlying3, cellsPr, cellsInt, pv, Value.cells, w1, w2]
   rfl⟩
 inj a b h := by
  unfold pv at h
  simp at h
  exact Prod.ext h.1 h.2
section
variable {α β : Type} {T : TypeId} {ek : α → Value} {ev : β → Value} {Ok : α → Prop} {W : World} {b : Nat} {l : List (α × β)} {ops : Array Oper} {o : Oper} {a : Act} {KK : Act → World → Prop} {Q : Exit → Act → World → Prop} {E : Prop}
theorem step_lookT (t e : TypeId) (K : KeyK T ek Ok) (ht : Tryz.prog.underlying t = some (.map T e)) {z : β} (hz : ∀ u, (zeroValue e).run Tryz.prog u = .ok (ev z) u) (h : MapIs W b ek ev Ok l) {k : α} (hk : Ok k) (hgd : o.guard = none) (m x : Operand) (hop : o.op = Op.lookup t m x true)
  (hm : a.eval m = .map (some b)) (hx : a.eval x = ek k) (hK : ∀ r : β × Bool, Got l z k r → KK (a.put o.dst (.tuple #[ev r.1, .bool r.2])) W) :
  if Region.wanted o (yielded ops a.tmps) = true then Oper.wp Tryz.prog o a W KK Q else E := by
 rw [if_pos (wanted_of hgd)]
 obtain ⟨r, hr, hrun, _⟩ := h.look K ht (hz W) hk
 unfold Oper.wp
 simp [execOp, hop, hm, hx, hrun, Result.andThen]
 exact hK r hr
end
def prAt (M : List (EdT × Int)) (p : EdT × Int) (k : Int × Int) : Prop := ∃ c, (bk p.1, c) ∈ M ∧ p.2 < c ∧ k = (p.2, c)
theorem mem_addKey {α : Type} [DecidableEq α] {ks : List α} {a k : α} : k ∈ addKey ks a ↔ k ∈ ks ∨ k = a := by
 unfold addKey
 by_cases h : a ∈ ks
 ·rw [if_pos h]
  exact ⟨.inl, fun h' => h'.elim id fun e => e ▸ h⟩
 ·rw [if_neg h, List.mem_append, List.mem_singleton]
structure PrL (w1 : World) (m2 m3 r : Nat) (M left : List (EdT × Int)) (L : List ((Int × Int) × Int)) (dn : List (EdT × Int)) (W : World) : Prop where
 rng : Ranges W m2 r gv iv OkE M left
 map : MapIs W m3 pv iv OkP L
 all : (dn ++ left).Perm M
 keys : ∀ k, k ∈ L.map Prod.fst ↔ ∃ p ∈ dn, prAt M p k
 below : Below w1.heap.size w1 W
 place : w1.heap.size ≤ m3 ∧ w1.heap.size ≤ r ∧ m3 ≠ r ∧ m2 < w1.heap.size
theorem got_one {M : List (EdT × Int)} (hn : (M.map Prod.fst).Nodup) {e : EdT} {c : Int} {r : Int × Bool} (h : Got M 0 e r) (hm : (e, c) ∈ M) : r = (c, true) := by
 rcases h with ⟨h1, -⟩ | ⟨h1, h2⟩
 ·exact absurd (List.mem_map_of_mem (f := Prod.fst) hm) h1
 ·obtain ⟨i, hi, e1⟩ := List.getElem_of_mem h2
  obtain ⟨j, hj, e2⟩ := List.getElem_of_mem hm
  have h3 := List.pairwise_iff_getElem.1 hn
  have hij : i = j := by
   have he : (M.map Prod.fst)[i]'(by simpa using hi) = (M.map Prod.fst)[j]'(by simpa using hj) := by
    rw [List.getElem_map, List.getElem_map, e1, e2]
   rcases Nat.lt_trichotomy i j with h | h | h
   ·exact absurd he (h3 i j (by simpa using hi) (by simpa using hj) h)
   ·exact h
   ·exact absurd he.symm (h3 j i (by simpa using hj) (by simpa using hi) h)
  subst hij
  rw [e1] at e2
  exact Prod.ext (congrArg Prod.snd e2) h1
theorem pr_none {M : List (EdT × Int)} (hn : (M.map Prod.fst).Nodup) {p : EdT × Int} {r : Int × Bool} (h : Got M 0 (bk p.1) r) (hr : ¬ (r.2 = true ∧ p.2 < r.1)) (k : Int × Int) : ¬ prAt M p k := by
 rintro ⟨c, h1, h2, -⟩
 have := got_one hn h h1
 rw [this] at hr
 exact hr ⟨rfl, h2⟩
theorem pr_some {M : List (EdT × Int)} (hn : (M.map Prod.fst).Nodup) {p : EdT × Int} {r : Int × Bool} (h : Got M 0 (bk p.1) r) (h1 : r.2 = true) (h2 : p.2 < r.1) (k : Int × Int) : prAt M p k ↔ k = (p.2, r.1) := by
 constructor
 ·rintro ⟨c, h3, -, rfl⟩
  rw [got_one hn h h3]
 ·rintro rfl
  rcases h with ⟨-, e⟩ | ⟨-, h3⟩
  ·rw [e] at h1; cases h1
  ·exact ⟨_, h3, h2, rfl⟩
theorem pr_perm {M dn left l1 l2 : List (EdT × Int)} {p : EdT × Int} (h : (dn ++ left).Perm M) (e : left = l1 ++ p :: l2) : ((p :: dn) ++ (l1 ++ l2)).Perm M := by
 subst e
 refine .trans ?_ h
 rw [← List.append_assoc dn l1, List.cons_append, ← List.append_assoc]
 exact List.perm_middle.symm
theorem pr_add {M dn : List (EdT × Int)} {p : EdT × Int} {L : List ((Int × Int) × Int)} {a : Int × Int} (h : ∀ k, k ∈ L.map Prod.fst ↔ ∃ p ∈ dn, prAt M p k) (hp : ∀ k, prAt M p k ↔ k = a) (k : Int × Int) : k ∈ addKey (L.map Prod.fst) a ↔ ∃ q ∈ p :: dn, prAt M q k := by
 rw [mem_addKey, h k, ← hp k]
 constructor
 ·rintro (⟨q, h1, h2⟩ | h1)
  ·exact ⟨q, .tail _ h1, h2⟩
  ·exact ⟨p, .head _, h1⟩
 ·rintro ⟨q, h1, h2⟩
  rcases List.mem_cons.1 h1 with rfl | h1
  ·exact .inr h2
  ·exact .inl ⟨q, h1, h2⟩
theorem pr_pass {M dn : List (EdT × Int)} {p : EdT × Int} {L : List ((Int × Int) × Int)} (h : ∀ k, k ∈ L.map Prod.fst ↔ ∃ p ∈ dn, prAt M p k) (hp : ∀ k, ¬ prAt M p k) (k : Int × Int) : k ∈ L.map Prod.fst ↔ ∃ q ∈ p :: dn, prAt M q k := by
 rw [h k]
 constructor
 ·rintro ⟨q, h1, h2⟩
  exact ⟨q, .tail _ h1, h2⟩
 ·rintro ⟨q, h1, h2⟩
  rcases List.mem_cons.1 h1 with rfl | h1
  ·exact absurd h2 (hp k)
  ·exact ⟨q, h1, h2⟩
theorem nd_len2 {α : Type} [DecidableEq α] : ∀ {l m : List α}, l.Nodup → (∀ x ∈ l, x ∈ m) → l.length ≤ m.length
 |[], _, _, _ => Nat.zero_le _
 |a :: l, m, hn, hs => by
  obtain ⟨h1, h2⟩ := List.nodup_cons.1 hn
  have ha := hs a List.mem_cons_self
  have h3 := nd_len2 (m := m.erase a) h2 fun x hx => (List.mem_erase_of_ne (fun e => h1 (by rw [← e]; exact hx))).2 (hs x (List.mem_cons_of_mem _ hx))
  have h4 := List.length_erase_of_mem ha
  have h5 := List.length_pos_of_mem ha
  rw [List.length_cons]
  omega
theorem pr_few {M : List (EdT × Int)} (hn : (M.map Prod.fst).Nodup) {ks : List (Int × Int)} (h : ∀ k ∈ ks, ∃ p ∈ M, prAt M p k) (hk : ks.Nodup) : ks.length ≤ M.length := by
 classical
 have hs : ∀ k ∈ ks, k ∈ M.map fun p => ((p.2, ((M.find? fun q => q.1 = bk p.1).map Prod.snd).getD 0) : Int × Int) := fun k hk => by
  obtain ⟨p, hp, c, h1, -, rfl⟩ := h k hk
  refine List.mem_map.2 ⟨p, hp, ?_⟩
  congr 1
  cases hf : M.find? fun q => q.1 = bk p.1 with
  |none => exact absurd h1 (fun h1 => by have := List.find?_eq_none.1 hf _ h1; simp at this)
  |some q =>
   have h2 : q.1 = bk p.1 := by simpa using List.find?_some hf
   have h3 := List.mem_of_find?_eq_some hf
   have := got_one hn (r := (q.2, true)) (.inr ⟨rfl, by rw [← h2]; exact h3⟩) h1
   exact congrArg Prod.fst this
 have := nd_len2 hk hs
 rwa [List.length_map] at this
set_option maxHeartbeats 1000000 in
theorem sorted_any (lt : (Int × Int) → (Int × Int) → Prop)
  (hsort : ∀ (w0 W : World) (A : Option Addr) (m cap : Nat) (l : List (Int × Int)), l.length ≤ 1000000 → RowI w0 54 2 encP (.slice A m cap) l W → Calls Tryz.prog 74 #[.slice A m cap, .func (.func 41) #[] #[]] W fun e W' => e = .returned (.tuple #[]) ∧ ∃ l', l'.Perm l ∧ l'.Pairwise lt ∧ RowI w0 54 2 encP (.slice A m cap) l' W')
  (it : Value) (w : World) (ks : List (Int × Int)) (hc : Calls Tryz.prog 73 #[it] w fun e w' => ∃ v ys, e = .returned v ∧ ys.Perm ks ∧ RowI w 54 2 encP v ys w') (hfew : ∀ ys : List (Int × Int), ys.Perm ks → ys.length ≤ 1000000) :
  Calls Tryz.prog 39 #[it, .func (.func 41) #[] #[]] w fun e w' => ∃ v ys, e = .returned v ∧ ys.Perm ks ∧ ys.Pairwise lt ∧ RowI w 54 2 encP v ys w' := by
 have HC := Lib.hid hc
 have HS := Lib.hid hsort
 have HF := Lib.hid hfew
 clear hc hsort hfew
 go_enter Tryz.func39, Tryz.ntmps39
 go_wp2_with (first
  |(go_at_call 73; go_must (refine HC.out.mono ?_; rintro e W1 ⟨v, ys, rfl, hp, hr⟩; obtain ⟨A, cap, rfl, -, -⟩ := hr.items; have HP := Lib.hid hp; have HR := Lib.hid hr; clear hp hr))
  |(go_at_call 74; go_must (refine (HS.out w _ _ _ _ ys (HF.out ys HP.out) HR.out).mono ?_; rintro e W2 ⟨rfl, zs, hp2, hl2, hr2⟩; have HP2 := Lib.hid hp2; have HL2 := Lib.hid hl2; have HR2 := Lib.hid hr2; clear hp2 hl2 hr2)))
 go_ret
 exact ⟨_, zs, rfl, HP2.out.trans HP.out, HL2.out, HR2.out⟩
set_option maxRecDepth 100000 in
set_option maxHeartbeats 8000000 in
theorem Pairs_any (M : List (EdT × Int)) (b m1 m2 : Nat) (d s q v : Value) (n : Int) (hn : IntKind.i64.wrap (n + 1) = n + 1) (hids : ∀ p ∈ M, In64 p.2) (hfew : M.length ≤ 100000) (w : World) (hb : w.heap[b]? = some (.cells #[.map (some m1), .map (some m2), d, s, q, v, .int .i64 n] 109 (0, 0))) (h2 : MapIs w m2 gv iv OkE M)
  (lt : (Int × Int) → (Int × Int) → Prop)
  (hsort : ∀ (w0 W : World) (A : Option Addr) (m cap : Nat) (l : List (Int × Int)), l.length ≤ 1000000 → RowI w0 54 2 encP (.slice A m cap) l W → Calls Tryz.prog 74 #[.slice A m cap, .func (.func 41) #[] #[]] W fun e W' => e = .returned (.tuple #[]) ∧ ∃ l', l'.Perm l ∧ l'.Pairwise lt ∧ RowI w0 54 2 encP (.slice A m cap) l' W') :
  Calls Tryz.prog 17 #[.pointer (some ⟨b, 0, none⟩)] w fun e w' => ∃ vv ss, e = .returned (.tuple #[vv, .int .i64 0]) ∧ RowI (w.setCell ⟨b, 6, none⟩ (.int .i64 (n + 1))) 54 2 encP vv ss w' ∧ ss.Pairwise lt ∧ ss.Nodup ∧ ∀ k, k ∈ ss ↔ ∃ p ∈ M, prAt M p k := by
 have hne2 : m2 ≠ b := fun e => by
  obtain ⟨es, k, hm, -⟩ := h2
  rw [e, hb] at hm
  cases hm
 have HCN := Lib.hid (count_one b n hn w (blk_cell hb 6) (blk_frozen hb 6))
 have hm2 := h2.setCell (a := ⟨b, 6, none⟩) hne2 (.int .i64 (n + 1))
 have c1 : (w.setCell ⟨b, 6, none⟩ (.int .i64 (n + 1))).cell? ⟨b, 1, none⟩ = some (.map (some m2)) := (World.cell?_setCell_other _ ⟨b, 6, none⟩ ⟨b, 1, none⟩ _ (by simp)).trans (blk_cell hb 1)
 have hbl : b < (w.setCell ⟨b, 6, none⟩ (.int .i64 (n + 1))).heap.size := by rw [World.size_setCell]; exact blk_lt hb
 have hnd := h2.nodup
 have hoke : ∀ p ∈ M, OkE p.1 := by
  obtain ⟨es, c, _, _, _, hok⟩ := h2
  exact hok
 clear hb h2 hn hne2
 generalize (w.setCell ⟨b, 6, none⟩ (.int .i64 (n + 1))) = w1 at *
 have hmm := @run_makeMap Tryz.prog
 have HND := Lib.hid hnd
 have HOK := Lib.hid hoke
 have HID := Lib.hid hids
 have HSORT := Lib.hid hsort
 have HM2 := Lib.hid hm2
 have HC1 := Lib.hid c1
 have HBL := Lib.hid hbl
 have HFEW := Lib.hid hfew
 clear hnd hoke hids hsort hm2 hbl hfew
 go_enter Tryz.func17, Tryz.ntmps17
 go_upto_region 5 with (go_at_call 27; go_must ((with_reducible refine HCN.out.mono ?_); rintro e wz ⟨rfl, hwz⟩; have hwz := hwz.symm; subst hwz))
 have HM3 : Hid (MapIs (w1.alloc (.map #[] 0)) w1.heap.size pv iv OkP ([] : List ((Int × Int) × Int))) := MapIs.made w1
 have hm2 : MapIs (w1.alloc (.map #[] 0)) m2 gv iv OkE M := HM2.out.alloc _
 have HB0 : Hid (Below w1.heap.size w1 (w1.alloc (.map #[] 0))) := Lib.hid ((Below.refl _ w1).alloc (Nat.le_refl _) _)
 have j1 : (w1.alloc (.map #[] 0)).cell? ⟨b, 1, none⟩ = some (.map (some m2)) := (HB0.out.cell HBL.out).trans HC1.out
 have HPL : Hid (m2 < w1.heap.size) := HM2.out.lt
 clear hmm c1
 obtain ⟨m3, hm3e⟩ : ∃ m, w1.heap.size = m := ⟨_, rfl⟩
 have HM3E : Hid (w1.heap.size = m3) := hm3e
 rw [hm3e] at HM3 ⊢
 clear hm3e
 generalize hW1 : (World.alloc _ _) = W1 at HM3 hm2 HB0 j1 ⊢
 clear hW1
 go_wp2_with (at_range; refine wp_range rfl _ 91 rfl 61 3 Tryz.underlying91 m2 rfl hm2 ?_; intro W2 HR2 hg2 hs2)
 go_frame
 have HS2 := HM3.out.kept hg2 (by simp)
 have HB2 := HB0.out.grown hg2 HB0.out.size (by simp)
 have hlt3 := HM3.out.lt
 clear hm2 j1 hg2 hs2 HB0 HM3
 generalize W1.heap.size = r at *
 have HPC : Hid (w1.heap.size ≤ m3 ∧ w1.heap.size ≤ r ∧ m3 ≠ r ∧ m2 < w1.heap.size) := ⟨by rw [HM3E.out]; exact Nat.le_refl _, by rw [HM3E.out]; omega, by omega, HPL.out⟩
 clear hlt3
 go_loopg [] M.length (fun g wr => ∃ left L dn, g = left.length ∧ PrL w1 m2 m3 r M left L dn wr)
 case atStart => exact ⟨M, [], [], rfl, HR2, HS2, List.Perm.refl _, fun k => ⟨fun h => (nomatch h), fun ⟨_, h, _⟩ => (nomatch h)⟩, HB2, HPC.out⟩
 case round =>
  clear HR2 HS2 HB2
  obtain ⟨left, L, dn, hgl, hpl⟩ := hrel
  have HGL := Lib.hid hgl
  have HL := Lib.hid hpl
  clear hgl hpl
  go_wp2_with (
   (at_next; refine wp_next rfl _ rfl r rfl HL.out.rng ?_ (fun l1 p l2 W5 hl hrg hg5 hs5 hen => ?_); rotate_left; (simp only [gv, iv] at hen ⊢); (have HLE := Lib.hid hl); (have HRG := Lib.hid hrg); (have HG5 := Lib.hid hg5); clear hl hrg hg5 hs5; rotate_left))
  ·intro hnil
   have HNIL := Lib.hid hnil
   clear hnil
   have HKY : Hid (∀ k, k ∈ L.map Prod.fst ↔ ∃ p ∈ M, prAt M p k) := fun k => by
    rw [HL.out.keys k]
    have hp : dn.Perm M := by
     have := HL.out.all
     rw [HNIL.out, List.append_nil] at this
     exact this
    exact ⟨fun ⟨q, h1, h2⟩ => ⟨q, hp.mem_iff.1 h1, h2⟩, fun ⟨q, h1, h2⟩ => ⟨q, hp.mem_iff.2 h1, h2⟩⟩
   have hLM : L.length ≤ 1000000 := by
    have h1 := pr_few HND.out (fun k h => (HKY.out k).1 h) HL.out.map.nodup
    have h2 : (L.map Prod.fst).length = L.length := List.length_map _
    have h3 := HFEW.out
    omega
   have HLM := Lib.hid hLM
   have HCC := Lib.hid (collectQ_any wr.heap.size m3 L hLM (wr.alloc (.cells #[.map (some m3)] 89)) (by simp) (blk_cell (heap_alloc_new _ _) 0) (HL.out.map.alloc _))
   have HB9 := Lib.hid (HL.out.below.alloc HL.out.below.size (.cells #[.map (some m3)] 89))
   have HSF := Lib.hid (sorted_any lt HSORT.out)
   have HNK := Lib.hid HL.out.map.nodup
   clear hLM
   go_wp2_with (first
    |(go_at_call 40; refine (keysQ_any _ _).mono ?_; rintro e w' ⟨rfl, rfl⟩)
    |(go_at_call 39; go_must (refine (HSF.out _ _ _ HCC.out (fun ys h => by rw [h.length_eq, List.length_map]; exact HLM.out)).mono ?_; rintro e w' ⟨v, ys, rfl, hp, hlt, hr⟩; have HP := Lib.hid hp; have HLT := Lib.hid hlt; have HRR := Lib.hid hr; clear hp hlt hr)))
   refine bodyPost_ret (v := .tuple #[v, .int .i64 0]) ?_ rfl ⟨v, ys, rfl, HRR.out.base HB9.out, HLT.out, HP.out.nodup_iff.2 HNK.out, fun k => by rw [HP.out.mem_iff]; exact HKY.out k⟩
   simp [results, Tryz.results17, go_sem]
  ·have hpe : p ∈ M := (HL.out.all.subset (by rw [HLE.out]; exact List.mem_append_right _ (List.mem_append_right _ List.mem_cons_self)))
   have HPE := Lib.hid hpe
   have HOE := Lib.hid (HOK.out p hpe)
   have HIE := Lib.hid (HID.out p hpe)
   have HPO := HL.out.place
   have HB5 := HL.out.below.grown HG5.out HL.out.below.size (fun k e => by have := Option.some.inj e; omega)
   have HM35 := Lib.hid ((HL.out.map.kept HG5.out (fun e => by have := Option.some.inj e; omega)).alloc (.cells #[.int .i64 p.1.1.1, .int .i64 p.1.1.2, .int .i64 p.1.2.1, .int .i64 p.1.2.2] 61 (0, 0)))
   have HRN5 := Lib.hid (HRG.out.alloc (.cells #[.int .i64 p.1.1.1, .int .i64 p.1.1.2, .int .i64 p.1.2.1, .int .i64 p.1.2.2] 61 (0, 0)))
   have HQ5 := Lib.hid ((show Hold w1 [] W5 from ⟨HB5, fun _ h => (nomatch h), List.Pairwise.nil⟩).new #[.int .i64 p.1.1.1, .int .i64 p.1.1.2, .int .i64 p.1.2.1, .int .i64 p.1.2.2] 61)
   clear hpe HPO HB5 hen
   generalize (World.alloc _ _) = W6 at HM35 HRN5 HQ5 ⊢
   generalize W5.heap.size = ge at HQ5 ⊢
   refine wp_region_held_drew (S := fun W => W.cell? ⟨b, 1, none⟩ = some (.map (some m2)) ∧ W.cell? ⟨ge, 0, none⟩ = some (.int .i64 p.1.1.1) ∧ W.cell? ⟨ge, 1, none⟩ = some (.int .i64 p.1.1.2) ∧ W.cell? ⟨ge, 2, none⟩ = some (.int .i64 p.1.2.1) ∧ W.cell? ⟨ge, 3, none⟩ = some (.int .i64 p.1.2.2)) (by kernel_rfl) ?_ (fun hHeld => ?_)
   ·(try dsimp only)
    exact ⟨(HQ5.out.drew.1.cell HBL.out).trans HC1.out, HQ5.out.drew.q4 (.head _)⟩
   refine tZ 0 ?_; refine tZ 1 ?_; refine tZ 2 ?_; refine tZ 3 ?_; refine tZ 4 ?_
   refine wpAnyH_ready (rs := [5]) (by decide +kernel) (by simp) ?_
   refine AllReadyH.cons rfl (fun K hK => ?_) AllReadyH.nil
   (try simp only [jA, jB, jC])
   go_simp
   (go_at_call 38; refine (turnedQ_any p.1 _).mono ?_; rintro e' W7 ⟨rfl, hB⟩; have HQ7 := Lib.hid (HQ5.out.drew.on hB); have HM7 := Lib.hid (HM35.out.drew.on hB HM35.out.lt); have HR7 := Lib.hid (HRN5.out.drew.on hB HRN5.out.isMap.lt HRN5.out.lt); clear hB)
   refine hK.out _ _ ?_ (fun hHeld => ?_)
   focus ((try dsimp only); exact ⟨(HQ7.out.1.cell HBL.out).trans HC1.out, HQ7.out.q4 (.head _)⟩; done)
   clear hK K
   (try simp only [Act.put, jA, jB, jC, jD, jE, jF])
   refine wpAnyH_ready (rs := [6]) (by decide +kernel) (by simp) ?_
   refine AllReadyH.cons rfl (fun K hK => ?_) AllReadyH.nil
   refine step_lookT (z := 0) (k := bk p.1) (ev := iv) 91 3 keyE Tryz.underlying91 zeroI HR7.out.isMap ⟨HOE.out.2, HOE.out.1⟩ (by rfl) _ _ (by rfl) (by rfl) (by rfl) ?_; intro rr hgot; have HGT := Lib.hid hgot; clear hgot; dsimp only [iv]
   refine hK.out _ _ ?_ (fun hHeld => ?_)
   focus ((try dsimp only); exact hHeld; done)
   clear hK K
   (try simp only [Act.put, jA, jB, jC, jD, jE, jF])
   refine tZ 7 ?_; refine tZ 8 ?_; refine tZ 9 ?_; refine tZ 10 ?_; refine tZ 11 ?_
   refine wpAnyH_done (by decide +kernel) ?_ _
   clear hHeld
   have HB7 : Hid (Below w1.heap.size w1 W7) := HQ7.out.1
   clear HQ7 HQ5 HRN5 HM35
   obtain ⟨c, sh⟩ := rr
   by_cases hh : sh = true ∧ p.2 < c
   ·obtain ⟨rfl, hlt⟩ := hh
    have HPT := Lib.hid (fun k => pr_some HND.out HGT.out rfl hlt k)
    have HOC : Hid (OkP (p.2, c)) := ⟨HIE.out, by
     rcases HGT.out with ⟨-, e⟩ | ⟨-, h3⟩
     ·cases e
     ·exact HID.out _ h3⟩
    have HT := Lib.hid hlt
    go_upto_region 10 with (fail)
    refine wp_region_held_drew (S := fun _ => True) (by kernel_rfl) trivial (fun hHeld => ?_)
    refine tZ 0 ?_; refine tZ 1 ?_; refine tZ 2 ?_; refine tZ 3 ?_
    refine wpAnyH_ready (rs := [4, 6]) (by decide +kernel) (by simp) ?_
    refine AllReadyH.cons rfl (fun K hK => ?_) (AllReadyH.cons rfl (fun K hK => ?_) AllReadyH.nil)
    ·refine step_look (z := 0) (ev := iv) (k := (p.2, c)) 89 3 keyR Tryz.underlying89 zeroI HM7.out.drew HOC.out (by rfl) _ _ (by rfl) (by rfl) (by rfl) ?_
     intro y3
     dsimp only [iv]
     refine hK.out _ _ hHeld (fun hHeld => ?_)
     clear hK K
     (try simp only [Act.put, jA, jB, jC, jD, jE, jF])
     refine tZ 5 ?_
     refine wpAnyH_ready (rs := [6]) (by decide +kernel) (by simp) ?_
     refine AllReadyH.cons rfl (fun K hK => ?_) AllReadyH.nil
     refine step_entry (z := 0) (ev := iv) (k := (p.2, c)) 89 3 keyR Tryz.underlying89 zeroI HM7.out.drew HOC.out (by rfl) _ _ (by rfl) (by rfl) (by rfl) ?_; intro y4 st W9 M1 hk1 hS1 hg1; have HK9 := Lib.hid hk1; have HS9 := Lib.hid hS1; have HG9 := Lib.hid (grown_undrew hg1); clear hk1 hS1 hg1
     refine hK.out _ _ ?_ (fun hHeld => ?_)
     focus ((try dsimp only); (try trivial); done)
     clear hK K
     (try simp only [Act.put, jA, jB, jC, jD, jE, jF])
     refine tZ 7 ?_
     refine wpAnyH_ready (rs := [8]) (by decide +kernel) (by simp) ?_
     refine AllReadyH.cons rfl (fun K hK => ?_) AllReadyH.nil
     refine step_estore (ev := iv) 89 HS9.out (IntKind.i64.wrap (y3 + 1)) (by rfl) _ _ _ (by rfl) (by rfl) (by rfl) (by rfl) ?_; intro W10 M2 hk2 hM2 hg2; have HK10 := Lib.hid hk2; have HM10 := Lib.hid hM2; have HG10 := Lib.hid (HG9.out.trans hg2); clear hk2 hM2 hg2
     refine hK.out _ _ ?_ (fun hHeld => ?_)
     focus ((try dsimp only); (try trivial); done)
     clear hK K
     (try simp only [Act.put, jA, jB, jC])
     refine wpAnyH_done (by decide +kernel) ?_ _
     clear hHeld
     go_wp2_with fail
     go_roundg (l1 ++ l2).length
     case measure => have := HGL.out; rw [HLE.out] at this; simp only [List.length_append, List.length_cons] at this ⊢; omega
     case rel => exact ⟨l1 ++ l2, M2, p :: dn, rfl, ⟨HR7.out.kept HG10.out (fun e => by have := HL.out.place; have := Option.some.inj e; omega) (fun e => by have := HL.out.place; have := Option.some.inj e; omega), HM10.out, pr_perm HL.out.all HLE.out, fun k => by rw [HK10.out, HK9.out]; exact pr_add HL.out.keys HPT.out k, HB7.out.grown HG10.out HB7.out.size (fun k e => by have := HL.out.place; have := Option.some.inj e; omega), HL.out.place⟩⟩
    ·refine step_entry (z := 0) (ev := iv) (k := (p.2, c)) 89 3 keyR Tryz.underlying89 zeroI HM7.out.drew HOC.out (by rfl) _ _ (by rfl) (by rfl) (by rfl) ?_
     intro y4 st W9 M1 hk1 hS1 hg1
     have HK9 := Lib.hid hk1
     have HS9 := Lib.hid hS1
     have HG9 := Lib.hid (grown_undrew hg1)
     clear hk1 hS1 hg1
     refine hK.out _ _ trivial (fun hHeld => ?_)
     clear hK K
     (try simp only [Act.put, jA, jB, jC, jD, jE, jF])
     refine tZ 7 ?_
     refine wpAnyH_ready (rs := [4]) (by decide +kernel) (by simp) ?_
     refine AllReadyH.cons rfl (fun K hK => ?_) AllReadyH.nil
     refine step_look (z := 0) (ev := iv) (k := (p.2, c)) 89 3 keyR Tryz.underlying89 zeroI HS9.out.isMap HOC.out (by rfl) _ _ (by rfl) (by rfl) (by rfl) ?_; intro y3; dsimp only [iv]
     refine hK.out _ _ ?_ (fun hHeld => ?_)
     focus ((try dsimp only); (try trivial); done)
     clear hK K
     (try simp only [Act.put, jA, jB, jC, jD, jE, jF])
     refine tZ 5 ?_
     refine wpAnyH_ready (rs := [8]) (by decide +kernel) (by simp) ?_
     refine AllReadyH.cons rfl (fun K hK => ?_) AllReadyH.nil
     refine step_estore (ev := iv) 89 HS9.out (IntKind.i64.wrap (y3 + 1)) (by rfl) _ _ _ (by rfl) (by rfl) (by rfl) (by rfl) ?_; intro W10 M2 hk2 hM2 hg2; have HK10 := Lib.hid hk2; have HM10 := Lib.hid hM2; have HG10 := Lib.hid (HG9.out.trans hg2); clear hk2 hM2 hg2
     refine hK.out _ _ ?_ (fun hHeld => ?_)
     focus ((try dsimp only); (try trivial); done)
     clear hK K
     (try simp only [Act.put, jA, jB, jC])
     refine wpAnyH_done (by decide +kernel) ?_ _
     clear hHeld
     go_wp2_with fail
     go_roundg (l1 ++ l2).length
     case measure => have := HGL.out; rw [HLE.out] at this; simp only [List.length_append, List.length_cons] at this ⊢; omega
     case rel => exact ⟨l1 ++ l2, M2, p :: dn, rfl, ⟨HR7.out.kept HG10.out (fun e => by have := HL.out.place; have := Option.some.inj e; omega) (fun e => by have := HL.out.place; have := Option.some.inj e; omega), HM10.out, pr_perm HL.out.all HLE.out, fun k => by rw [HK10.out, HK9.out]; exact pr_add HL.out.keys HPT.out k, HB7.out.grown HG10.out HB7.out.size (fun k e => by have := HL.out.place; have := Option.some.inj e; omega), HL.out.place⟩⟩
   ·have HPT := Lib.hid (fun k => pr_none HND.out HGT.out hh k)
    cases sh
    ·clear hh
     go_wp2_with fail
     go_roundg (l1 ++ l2).length
     case measure => have := HGL.out; rw [HLE.out] at this; simp only [List.length_append, List.length_cons] at this ⊢; omega
     case rel => exact ⟨l1 ++ l2, L, p :: dn, rfl, ⟨HR7.out, HM7.out, pr_perm HL.out.all HLE.out, fun k => pr_pass HL.out.keys HPT.out k, HB7.out, HL.out.place⟩⟩
    ·have hlt : ¬ p.2 < c := fun h => hh ⟨rfl, h⟩
     clear hh
     go_wp2_with fail
     go_roundg (l1 ++ l2).length
     case measure => have := HGL.out; rw [HLE.out] at this; simp only [List.length_append, List.length_cons] at this ⊢; omega
     case rel => exact ⟨l1 ++ l2, L, p :: dn, rfl, ⟨HR7.out, HM7.out, pr_perm HL.out.all HLE.out, fun k => pr_pass HL.out.keys HPT.out k, HB7.out, HL.out.place⟩⟩
end Go.Proofs.YtoabooljgojoiaaGreat

namespace Go.Proofs.YtoabooljgojoiaaGreat
open Go.RowKit Go.Sort Go.Shelf

set_option maxHeartbeats 1000000 in
theorem byAB_any (a b : Int × Int) (w : World) :
  Calls Tryz.prog 41 #[.agg #[.int .i64 a.1, .int .i64 a.2], .agg #[.int .i64 b.1, .int .i64 b.2]] w fun e w' => e = .returned (.int .i64 (cxy a b)) ∧ ∃ q os', w' = grow (w.drewN q) os' := by
 have HQ := ((Hold.refl w).new #[.int .i64 a.1, .int .i64 a.2] 54).new' #[.int .i64 b.1, .int .i64 b.2] 54 (n := w.heap.size + 1) (by simp only [World.size_alloc])
 have HO := Lib.hid (fun x y g cap w h0 h1 => or_any x y g cap w h0 h1)
 have HCX : Hid (cxy a b = orV (sg1 a.1 b.1) (sg1 a.2 b.2)) := Lib.hid rfl
 go_enter Tryz.func41, Tryz.ntmps41
 go_upto_region 1 with (fail)
 have HW1 : Hid (∃ os, (w.alloc (.cells #[.int .i64 a.1, .int .i64 a.2] 54)).alloc (.cells #[.int .i64 b.1, .int .i64 b.2] 54) = grow w os) := ⟨_, by rw [alloc_eq_grow, alloc_eq_grow, grow_grow]⟩
 generalize (World.alloc _ _) = W1 at HQ HW1 ⊢
 generalize w.heap.size + 1 = g1 at HQ ⊢
 refine wp_region_held_drew (S := fun W => W.cell? ⟨w.heap.size, 0, none⟩ = some (.int .i64 a.1) ∧ W.cell? ⟨w.heap.size, 1, none⟩ = some (.int .i64 a.2) ∧ W.cell? ⟨g1, 0, none⟩ = some (.int .i64 b.1) ∧ W.cell? ⟨g1, 1, none⟩ = some (.int .i64 b.2)) (by kernel_rfl) (Hold.rd2 (Hold.drew HQ)) (fun hHeld => ?_)
 refine tZ 0 ?_; refine tZ 1 ?_; refine tZ 2 ?_; refine tZ 3 ?_; refine tZ 5 ?_; refine tZ 6 ?_; refine tZ 7 ?_; refine tZ 8 ?_
 refine wpAnyH_ready (rs := [4]) (by decide +kernel) (by simp) ?_
 refine AllReadyH.cons rfl (fun K hK => ?_) AllReadyH.nil
 (try simp only [jA, jB, jC])
 go_simp
 (go_at_call 77; refine (compare_int _ _ _).mono ?_; rintro e w' ⟨rfl, rfl⟩)
 refine hK.out _ _ ?_ (fun hHeld => ?_)
 focus ((try dsimp only); exact hHeld; done)
 clear hK K
 (try simp only [Act.put, jA, jB, jC, jD, jE, jF])
 refine wpAnyH_ready (rs := [9]) (by decide +kernel) (by simp) ?_
 refine AllReadyH.cons rfl (fun K hK => ?_) AllReadyH.nil
 (try simp only [jA, jB, jC])
 go_simp
 (go_at_call 77; refine (compare_int _ _ _).mono ?_; rintro e w' ⟨rfl, rfl⟩)
 refine hK.out _ _ ?_ (fun hHeld => ?_)
 focus ((try dsimp only); exact hHeld; done)
 clear hK K
 (try simp only [Act.put, jA, jB, jC, jD, jE, jF])
 have hnw := heap_alloc_new W1.drew (Obj.cells #[.int .i64 (sg1 a.1 b.1), .int .i64 (sg1 a.2 b.2)] 3 (0, 0))
 refine wpAnyH_ready (rs := [10]) (by decide +kernel) (by simp) ?_
 refine AllReadyH.cons rfl (fun K hK => ?_) AllReadyH.nil
 (try simp only [jA, jB, jC])
 go_simp
 refine hK.out _ _ ?_ (fun hHeld => ?_)
 focus ((try dsimp only); exact Hold.rd2 (Hold.alloc (Hold.drew HQ) _); done)
 clear hK K
 (try simp only [Act.put, jA, jB, jC, jD, jE, jF])
 refine wpAnyH_ready (rs := [11]) (by decide +kernel) (by simp) ?_
 refine AllReadyH.cons rfl (fun K hK => ?_) AllReadyH.nil
 (try simp only [jA, jB, jC])
 go_simp
 (go_at_call 76; refine (HO.out _ _ _ _ _ (blk_cell hnw 0) (blk_cell hnw 1)).mono ?_; rintro e w' ⟨rfl, rfl⟩)
 refine hK.out _ _ ?_ (fun hHeld => ?_)
 focus ((try dsimp only); exact Hold.rd2 (Hold.alloc (Hold.drew HQ) _); done)
 clear hK K
 (try simp only [Act.put, jA, jB, jC, jD, jE, jF])
 refine tZ 12 ?_
 refine wpAnyH_done (by decide +kernel) ?_ _
 go_wp2
 go_ret
 rw [HCX.out]
 obtain ⟨os, e⟩ := HW1.out
 exact ⟨rfl, 1, _, by rw [e, alloc_eq_grow, drew_grow, grow_grow]; rfl⟩
set_option maxRecDepth 100000 in
theorem len64_zero (W : World) : Calls Tryz.prog 147 #[.int .u64 0] W fun e w' => e = .returned (.int .i64 0) ∧ w' = W := by
 go_enter Tryz.func147, Tryz.ntmps147
 go_wp2
 go_ret
 exact ⟨by simp [show Lib.len8 0 = 0 from by decide, show wrap64 0 = 0 from by kernel_rfl], rfl⟩
set_option maxRecDepth 100000 in
theorem len_zero (W : World) : Calls Tryz.prog 113 #[.int .u64 0] W fun e w' => e = .returned (.int .i64 0) ∧ w' = W := by
 go_enter Tryz.func113, Tryz.ntmps113
 go_wp2_with (go_at_call 147; go_must (refine (len64_zero _).mono ?_; rintro e w' ⟨rfl, rfl⟩))
 go_ret
 exact ⟨rfl, rfl⟩
set_option maxRecDepth 100000 in
set_option maxHeartbeats 4000000 in
theorem ins_nil (W : World) (f : Value) : Calls Tryz.prog 138 #[.slice none 0 0, .int .i64 0, .int .i64 0, f] W fun e w' => e = .returned (.tuple #[]) ∧ w' = W := by
 go_enter Tryz.func138, Tryz.ntmps138
 go_wp2
 go_loopg [8] 0 (fun g i wr => i = .int .i64 1 ∧ wr = W)
 case atStart => exact ⟨rfl, rfl⟩
 case round =>
  obtain ⟨rfl, rfl⟩ := hrel
  go_wp2
  go_end0
  exact ⟨rfl, rfl⟩
set_option maxRecDepth 100000 in
set_option maxHeartbeats 4000000 in
theorem pdq_nil (W : World) (f : Value) : Calls Tryz.prog 112 #[.slice none 0 0, .int .i64 0, .int .i64 0, .int .i64 0, f] W fun e w' => e = .returned (.tuple #[]) ∧ w' = W := by
 go_enter Tryz.func112, Tryz.ntmps112
 go_wp2
 go_loopg [1, 2] 0 (fun g a b wr => a = .int .i64 0 ∧ b = .int .i64 0 ∧ wr = W)
 case atStart => exact ⟨rfl, rfl, rfl⟩
 case round =>
  obtain ⟨rfl, rfl, rfl⟩ := hrel
  go_wp2_with (go_at_call 138; go_must (refine (ins_nil _ _).mono ?_; rintro e w' ⟨rfl, rfl⟩))
  refine bodyPost_ret (v := .tuple #[]) ?_ ?_ ?_
  ·simp [results, Tryz.results112, go_sem]
  ·rfl
  ·exact ⟨rfl, rfl⟩
set_option maxRecDepth 100000 in
set_option maxHeartbeats 4000000 in
theorem sort_nil (W : World) (f : Value) : Calls Tryz.prog 74 #[.slice none 0 0, f] W fun e w' => e = .returned (.tuple #[]) ∧ w' = W := by
 go_enter Tryz.func74, Tryz.ntmps74
 go_wp2_with (first
  |(go_at_call 113; go_must (refine (len_zero _).mono ?_; rintro e w' ⟨rfl, rfl⟩))
  |(go_at_call 112; go_must (refine (pdq_nil _ _).mono ?_; rintro e w' ⟨rfl, rfl⟩)))
 go_end0
 exact ⟨rfl, rfl⟩
def LtP (a b : Int × Int) : Prop := a.1 < b.1 ∨ (a.1 = b.1 ∧ a.2 < b.2)
instance (a b : Int × Int) : Decidable (LtP a b) := by unfold LtP; exact inferInstance
theorem ltR (x y : Int × Int) : ltOf cxy x y = decide (LtP x y) := by
 unfold ltOf cxy orV sg1 LtP
 apply decide_eq_decide.2
 repeat' split
 all_goals omega
theorem swoR : SWO (ltOf cxy) where
 irrefl x := by rw [ltR]; unfold LtP; simp
 trans x y z h1 h2 := by rw [ltR] at *; simp only [decide_eq_true_eq] at *; unfold LtP at *; omega
 ntrans x y z h1 h2 := by rw [ltR] at *; simp only [decide_eq_false_iff_not] at *; unfold LtP at *; omega
theorem flatR_get (d : Array (Int × Int)) (j : Nat) (hj : j < d.size * 2) : (flatK encP 2 d)[j]! = (encP d[j / 2]!)[j % 2]! := get_flatK encP 2 d j hj
theorem flatR_list (d : Array (Int × Int)) (j : Nat) (hj : j < d.size * 2) : (d.toList.flatMap encP)[j]? = some (flatK encP 2 d)[j]! := by
 have hk : j / 2 < d.size := by omega
 have h := flat_get (enc := encP) (n := 2) (fun _ => rfl) d.toList (j / 2) d[j / 2] (j % 2) (by rw [Array.getElem?_toList, Array.getElem?_eq_getElem hk]) (by omega)
 rw [show j / 2 * 2 + j % 2 = j by omega] at h
 rw [h, flatR_get d j hj, getElem!_pos d (j / 2) hk]
 have h3 : (encP d[j / 2]).length = 2 := rfl
 rw [List.getElem?_eq_getElem (by rw [h3]; omega)]
 congr 1
 rw [getElem!_pos]
theorem mapBlock_atR {w : World} {g : Nat} {f : Array Value → Array Value} {c : Array Value} {e : TypeId} {fr : Nat × Nat} (h : w.heap[g]? = some (.cells c e fr)) : (mapBlock w g f).heap[g]? = some (.cells (f c) e fr) := by
 unfold mapBlock
 simp only [Array.getElem?_modify, if_true, h, Option.map_some]
 rfl
theorem take_flatR {cur : Array Value} {l : List (Int × Int)} {d : Array (Int × Int)} {cap : Nat} (hl : d.size = l.length) (hc : l.length ≤ cap) (hs : cur.size = cap * 2) : ((putCells id 0 (flatK encP 2 d) cur).toList.take (l.length * 2)) = d.toList.flatMap encP := by
 have hfl : (d.toList.flatMap encP).length = d.size * 2 := by rw [flat_len (enc := encP) (n := 2) (fun _ => rfl), Array.length_toList]
 apply List.ext_getElem?
 intro j
 by_cases hj : j < l.length * 2
 ·rw [List.getElem?_take_of_lt hj, Array.getElem?_toList, flatR_list d j (by omega)]
  have hjc : j < cur.size := by rw [hs]; omega
  simp only [putCells, Array.getElem?_mapIdx, Array.getElem?_eq_getElem hjc, Option.map_some, size_flatK]
  rw [if_pos ⟨Nat.zero_le _, by omega⟩, Nat.sub_zero]
  rfl
 ·rw [List.getElem?_eq_none (by rw [List.length_take]; omega), List.getElem?_eq_none (by omega)]
set_option maxHeartbeats 1000000 in
theorem sortR_any (w W : World) (A : Option Addr) (n cap : Nat) (l : List (Int × Int)) (hln : l.length ≤ 1000000) (hr : RowI w 54 2 encP (.slice A n cap) l W) :
  Calls Tryz.prog 74 #[.slice A n cap, .func (.func 41) #[] #[]] W fun e W' => e = .returned (.tuple #[]) ∧ ∃ l' : List (Int × Int), l'.Perm l ∧ l'.Pairwise (fun a b => ¬ LtP b a) ∧ RowI w 54 2 encP (.slice A n cap) l' W' ∧ W.heap.size ≤ W'.heap.size ∧ ∀ k, k < W.heap.size → (∀ ad, A = some ad → ad.block ≠ k) → W'.heap[k]? = W.heap[k]? := by
 obtain ⟨hB, hl, ⟨hv, hz⟩ | ⟨g, cap', cur, hv, hb, hg, hn, hc, hs, ht⟩⟩ := hr
 ·obtain ⟨rfl, rfl, rfl⟩ := Value.slice.inj hv
  obtain rfl := List.length_eq_zero_iff.1 hz
  refine (sort_nil W _).mono ?_
  rintro e W' ⟨rfl, rfl⟩
  exact ⟨rfl, [], .refl _, .nil, RowI.nil hB, Nat.le_refl _, fun _ _ _ => rfl⟩
 ·obtain ⟨rfl, rfl, rfl⟩ := Value.slice.inj hv
  have hH : HoldsK encP 2 W g 0 l.toArray := fun j hj => by
   rw [size_flatK] at hj
   have hj' : j < l.length * 2 := by simpa using hj
   rw [Nat.zero_add]
   refine ⟨?_, blk_frozen hg j⟩
   rw [blk_cell hg j, ← Array.getElem?_toList]
   have h2 : (cur.toList.take (l.length * 2))[j]? = cur.toList[j]? := List.getElem?_take_of_lt (by omega)
   rw [← h2, ht]
   have := flatR_list l.toArray j hj
   exact this
  have hlt := blk_lt hg
  have eg : ∀ args w, (callFunc 41 args).run Tryz.prog w = .ok (.enter 41 args) w := enters_of Tryz.func41 (by kernel_rfl) rfl
  have hcon := AnyQ.slices_SortFunc Tryz.sortP 2 Tryz.isAgg54 Tryz.sizeOf54 encP (fun _ => rfl) (fun x v hv => by simp [encP] at hv; rcases hv with rfl | rfl <;> rfl) cxy swoR 41 #[] g 0 cap l.toArray W eg (fun _ _ _ _ x y => byAB_any x y _) hH hlt (by simp; omega)
  refine hcon.mono ?_
  rintro e W' ⟨h1, d', m, os, hp, hsrt, rfl⟩
  have hsz : d'.size = l.length := by rw [hp.1]; simp
  have hpl : d'.toList.Perm l := by
   have := hp.2.2
   rw [show d'.extract 0 l.toArray.size = d' by rw [← hp.1]; exact Array.extract_size, show l.toArray.extract 0 l.toArray.size = l.toArray from Array.extract_size] at this
   simpa using this
  refine ⟨h1, d'.toList, hpl, ?_, ⟨⟨hB.os, hB.tape, hB.output, by show _ ≤ (grow _ _).heap.size; rw [size_grow]; unfold putRowK; rw [size_putRow]; exact Nat.le_trans hB.size (Nat.le_add_right _ _), fun k hk => ?_⟩, ?_, .inr ⟨g, cap, putCells id 0 (flatK encP 2 d') cur, ?_, hb, ?_, ?_, hc, ?_, ?_⟩⟩, ?_, ?_⟩
  ·refine List.pairwise_iff_getElem.2 fun i j hi hj hij => ?_
   have := hsrt i j (Nat.zero_le _) hij (by simp at hj ⊢; omega)
   rw [ltR] at this
   simp only [Array.length_toList] at hi hj
   rw [getElem!_pos d' i hi, getElem!_pos d' j hj] at this
   simp only [Array.getElem_toList]
   exact of_decide_eq_false this
  ·have hkW : k < W.heap.size := Nat.lt_of_lt_of_le hk hB.size
   show (grow _ _).heap[k]? = _
   rw [heap_grow_old _ _ (by unfold putRowK; rw [size_putRow]; exact hkW)]
   have hne : g ≠ k := by omega
   show (W.heap.modify g _)[k]? = _
   rw [Array.getElem?_modify, if_neg hne]
   exact hB.block k hk
  ·rw [flat_len (enc := encP) (n := 2) (fun _ => rfl)]
  ·simp [hsz]
  ·show (grow _ _).heap[g]? = _
   rw [heap_grow_old _ _ (by unfold putRowK; rw [size_putRow]; exact hlt)]
   exact mapBlock_atR hg
  ·rw [Array.length_toList, hsz]; exact hn
  ·simp [putCells, hs]
  ·rw [Array.length_toList, hsz]
   exact take_flatR hsz hn hs
  ·show _ ≤ (grow _ _).heap.size
   rw [size_grow]; unfold putRowK; rw [size_putRow]; exact Nat.le_add_right _ _
  ·intro k hk hne
   show (grow _ _).heap[k]? = _
   rw [heap_grow_old _ _ (by unfold putRowK; rw [size_putRow]; exact hk)]
   have hne : g ≠ k := hne _ rfl
   show (W.heap.modify g _)[k]? = _
   rw [Array.getElem?_modify, if_neg hne]
end Go.Proofs.YtoabooljgojoiaaGreat

