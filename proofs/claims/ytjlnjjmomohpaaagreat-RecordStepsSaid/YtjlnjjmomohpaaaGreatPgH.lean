/- The library's Keys and Collect at a map of edges: all its keys, in some order, in a slice of the call's own. -/
import Derived.RangeFuncNested
import Derived.RangeFuncBound
import Derived.RangeFuncCalls
import Derived.RangeFuncLeaves
import Derived.RangeFuncBox
import Derived.Shelf.Abstract
import Derived.WalkKit
import Derived.OwnWalkIn
import Derived.TacticsInMore
import Derived.LoopNIn
import Derived.LoopIn
import Derived.Sort.MapsRangeIn
import Derived.Test.YtjlnjjmomohpaaaGreatPgF
namespace Go.Proofs.YtjlnjjmomohpaaaGreat
open Go.RowKit Go.Shelf
attribute [local go_sem] Oper.semAt_some

section
variable {α β : Type} {T : TypeId} {ek : α → Value} {ev : β → Value} {Ok : α → Prop} {W W' : World} {b r : Nat} {l left : List (α × β)}
theorem Ranges.of_walks (h : Ranges W b r ek ev Ok l left) (hk : KeepsWalks W W') : Ranges W' b r ek ev Ok l left := by
 obtain ⟨es, c, since, seen, c0, hb, hl, hs, hok, hr, rest⟩ := h
 exact ⟨es, c, since, seen, c0, hk.same b _ hb rfl, hl, hs, hok, hk.same r _ hr rfl, rest⟩
theorem Ranges.left_eq (h : Ranges W b r ek ev Ok l left) : W.rangeLeft b r = left.length := by
 obtain ⟨es, c, since, seen, c0, hb, hl, hs, hok, hr, hold, hleft, _⟩ := h
 simp only [World.rangeLeft, hb, hr]
 rw [← Array.length_toList, ← List.length_map (f := fun e : MapEntry => (e.key, e.val)), hleft, List.length_map]
variable {F : Fence} {n : Nat} {ops : Array Oper} {rest : List Oper} {o : Oper} {a : Act} {Q : Exit → Act → World → Prop}
theorem wpIn_range (hg : o.guard = none) (m : Operand) (t : TypeId) (hop : o.op = Op.range t m) (T e : TypeId) (ht : Tryz.prog.underlying t = some (.map T e)) (b : Nat) (hm : a.eval m = .map (some b)) (h : MapIs W b ek ev Ok l)
  (hK : ∀ W', Ranges W' b W.heap.size ek ev Ok l l → W.grownBy W' none → W'.heap.size = W.heap.size + 1 → wpListIn F n Tryz.prog ops Q rest (a.put o.dst (.pointer (some ⟨W.heap.size, 0, none⟩))) W') : wpListIn F n Tryz.prog ops Q (o :: rest) a W := by
 refine wpListIn_plain hg fun K' hK' => ?_
 obtain ⟨W', hrun, r1, r2, r3⟩ := h.range ht
 unfold Oper.wpIn
 refine ⟨?_, ?_⟩
 ·simp [Oper.about, hop]
 ·rw [Oper.semAt_plain F _ _ (by rw [hop]; intro c hc'; cases hc')]
  simp [execOp, hop, hm, hrun, Result.andThen]
  exact hK' _ _ (hK W' r1 r2 r3)
theorem wpIn_next (hg : o.guard = none) (it : Operand) (hop : o.op = Op.next it false) (r : Nat) (hit : a.eval it = .pointer (some ⟨r, 0, none⟩)) (h : Ranges W b r ek ev Ok l left)
  (hDone : left = [] → wpListIn F n Tryz.prog ops Q rest (a.put o.dst (.tuple #[.bool false])) W)
  (hMore : ∀ l1 p l2 W', left = l1 ++ p :: l2 → Ranges W' b r ek ev Ok l (l1 ++ l2) → W.grownBy W' (some r) → W'.heap.size = W.heap.size → (Instr.entry (.pointer (some ⟨r, 0, none⟩))).run Tryz.prog W' = .ok (.tuple #[ek p.1, ev p.2]) W' → wpListIn F n Tryz.prog ops Q rest (a.put o.dst (.tuple #[.bool true, ek p.1, ev p.2])) W') :
  wpListIn F n Tryz.prog ops Q (o :: rest) a W := by
 refine wpListIn_plain hg fun K' hK' => ?_
 unfold Oper.wpIn
 refine ⟨by simp [Oper.about, hop], ?_⟩
 rw [Oper.semAt_plain F _ _ (by rw [hop]; intro c hc'; cases hc')]
 rcases h.next o.type with ⟨h0, hrun⟩ | ⟨l1, p, l2, W', hl, hrun, hrg, hgr, hsz, hen⟩
 ·simp [execOp, hop, hit, hrun, Result.andThen]
  exact hK' _ _ (hDone h0)
 ·simp [execOp, hop, hit, hrun, Result.andThen]
  exact hK' _ _ (hMore l1 p l2 W' hl hrg hgr hsz hen)
end

set_option maxRecDepth 100000 in
set_option maxHeartbeats 1000000 in
theorem keys1_in (F : Fence) (n : Nat) (hf : F.fn 186) (hro : F.round = none) (hn : 1 ≤ n) (l Bm b : Nat) (L : List (EdT × Int)) (J Jx : List EdT → World → Prop)
  (hY : ∀ pre x W, J pre W → pre.length < L.length → YieldAt F (n - 1) Tryz.prog l #[gv x] W fun e W' =>
   (e = .returned (.bool true) ∧ J (pre ++ [x]) W' ∧ KeepsWalks W W') ∨ (e = .returned (.bool false) ∧ Jx (pre ++ [x]) W'))
  (W : World) (hJ : AbidesFrom W.heap.size J) (hm : W.cell? ⟨Bm, 0, none⟩ = some (.map (some b))) (hown : MapIs W b gv iv OkE L) (h0 : J [] W) :
  CallsIn F n Tryz.prog 186 #[.func (.yield l) #[] #[], .pointer (some ⟨Bm, 0, none⟩)] W fun e W' => (∃ v, e = .returned v) ∧
   ((∃ ys, ys.Perm (L.map Prod.fst) ∧ J ys W') ∨ (∃ pre, Jx pre W')) := by
 refine callsIn_of_wp Tryz.func186 rfl hf ?_ hro
 simp only [Tryz.ntmps186, List.size_toArray, List.length_cons, List.length_nil, Nat.reduceAdd, Nat.reduceSub, Array.replicate_succ, Array.replicate_zero, List.push_toArray, List.append_toArray, List.nil_append, List.cons_append]
 gi_wp2_with (gi_at_range; refine wpIn_range rfl _ 147 rfl 76 3 Tryz.underlying147 b rfl hown ?_; intro w0 hrg0 hg0 hs0)
 go_frame
 have hJ0 := hJ [] W w0 none h0 hg0 (fun r e => by cases e)
 gi_loopw [3] (fun _ wr => ∃ left ys, Ranges wr b W.heap.size gv iv OkE L left ∧ (ys ++ left.map Prod.fst).Perm (L.map Prod.fst) ∧ J ys wr) (fun _ wr => wr.rangeLeft b W.heap.size)
 case atStart => exact ⟨L, [], hrg0, List.Perm.refl _, hJ0⟩
 case round =>
  obtain ⟨left, ys, hrg, hP, hJs⟩ := hrel
  have HRS := Lib.hid hrg
  have HP := Lib.hid hP
  clear hrg hP
  gi_wp2_with (
   (gi_at_next; refine wpIn_next rfl _ rfl W.heap.size rfl HRS.out ?_ (fun l1 p l2 W5 hl hrg hg5 hs5 hen => ?_); rotate_left; (simp only [gv, iv] at hen ⊢); (have HL := Lib.hid hl); (have HRG := Lib.hid hrg); (have HG5 := Lib.hid hg5); clear hl hrg hg5 hs5; rotate_left))
  ·intro hnil
   have HPN : Hid (ys.Perm (L.map Prod.fst)) := by have := HP.out; rw [hnil] at this; unfold Hid; simpa using this
   clear hnil
   gi_wp2
   go_end0
   exact ⟨⟨_, rfl⟩, .inl ⟨ys, HPN.out, hJs⟩⟩
  ·obtain ⟨e, m⟩ := p
   have hlen : ys.length < L.length := by
    have h1 := HP.out.length_eq
    rw [List.length_append, List.length_map, List.length_map, HL.out, List.length_append, List.length_cons] at h1
    omega
   have hJ5 := hJ ys wr W5 (some W.heap.size) hJs HG5.out (fun r e => by cases e; exact ⟨Nat.le_refl _, HRS.out.walk⟩)
   have hJ6 := hJ ys W5 (W5.alloc (Obj.cells #[Value.int IntKind.i64 e.1.1, Value.int IntKind.i64 e.1.2, Value.int IntKind.i64 e.2.1, Value.int IntKind.i64 e.2.2] 76)) none hJ5 (World.grownBy_alloc _ _ _) (fun r e => by cases e)
   have hR6 := HRG.out.alloc (Obj.cells #[Value.int IntKind.i64 e.1.1, Value.int IntKind.i64 e.1.2, Value.int IntKind.i64 e.2.1, Value.int IntKind.i64 e.2.2] 76)
   obtain ⟨fn, tmps, assign, body, hy, hR⟩ := hY ys e _ hJ6 hlen
   simp only [gv] at hy
   have HLN : Hid ((l1 ++ l2).length < left.length) := by unfold Hid; rw [HL.out]; simp
   have HP1 : Hid (((ys ++ [e]) ++ (l1 ++ l2).map Prod.fst).Perm (L.map Prod.fst)) := by
    refine List.Perm.trans ?_ HP.out
    rw [HL.out, List.append_assoc]
    refine List.Perm.append_left ys ?_
    rw [List.map_append, List.map_append, List.map_cons]
    show (e :: (l1.map Prod.fst ++ l2.map Prod.fst)).Perm (l1.map Prod.fst ++ e :: l2.map Prod.fst)
    exact List.perm_middle.symm
   gi_wp2
   refine hR.mono ?_
   rintro e' W3 (⟨rfl, hJ3, hk3⟩ | ⟨rfl, hJx3⟩)
   ·have HR3 := Lib.hid (hR6.of_walks hk3)
    clear hR6 hy hR
    gi_wp2
    go_roundw
    case rel => exact ⟨l1 ++ l2, ys ++ [e], HR3.out, HP1.out, hJ3⟩
    case measure => rw [HR3.out.left_eq, HRS.out.left_eq]; exact HLN.out
   ·clear hR6 hy hR
    gi_wp2
    refine bodyPost_ret (results_none rfl _ _ _) rfl ?_
    exact ⟨⟨_, rfl⟩, .inr ⟨_, hJx3⟩⟩
theorem keys_stops (F : Fence) (n : Nat) (hf : F.fn 186) (hro : F.round = none) (hn : 1 ≤ n) (Bm b : Nat) (L : List (EdT × Int)) (w : World) (hBm : Bm < w.heap.size)
  (hm : w.cell? ⟨Bm, 0, none⟩ = some (.map (some b))) (hown : MapIs w b gv iv OkE L) :
  SeqStopsK F n Tryz.prog 186 #[.pointer (some ⟨Bm, 0, none⟩)] (fun x : EdT => #[gv x]) KeepsWalks (fun ys => ys.Perm (L.map Prod.fst)) (fun _ => True) L.length w := fun l J Jx W hW hJ _ hY h0 =>
 (keys1_in F n hf hro hn l Bm b L J Jx hY W hJ ((hW.cell (p := ⟨Bm, 0, none⟩) hBm).trans hm) (hown.on hW hown.lt) h0).mono fun _ _ ⟨h1, h2⟩ => ⟨h1, h2.imp id (fun ⟨pre, h⟩ => ⟨pre, trivial, h⟩)⟩
theorem keys_in (F : Fence) (n : Nat) (hf : F.fn 167) (hro : F.round = none) (mb : Option Nat) (w : World) :
  CallsIn F n Tryz.prog 167 #[.map mb] w fun e w' => e = .returned (.func (.func 186) #[] #[.pointer (some ⟨w.heap.size, 0, none⟩)]) ∧ w' = w.alloc (.cells #[.map mb] 147) := by
 refine callsIn_of_wp Tryz.func167 rfl hf ?_ hro
 simp only [Tryz.ntmps167, List.size_toArray, List.length_cons, List.length_nil, Nat.reduceAdd, Nat.reduceSub, Array.replicate_succ, Array.replicate_zero, List.push_toArray, List.append_toArray, List.nil_append, List.cons_append]
 gi_wp2
 go_ret
 exact ⟨rfl, rfl⟩
theorem keys_any (mb : Option Nat) (w : World) :
  Calls Tryz.prog 167 #[.map mb] w fun e w' => e = .returned (.func (.func 186) #[] #[.pointer (some ⟨w.heap.size, 0, none⟩)]) ∧ w' = w.alloc (.cells #[.map mb] 147) :=
 (callsIn_wide (n := 3)).1 (keys_in Fence.wide 3 trivial rfl mb w)
end Go.Proofs.YtjlnjjmomohpaaaGreat

namespace Go.Proofs.YtjlnjjmomohpaaaGreat
open Go.RowKit Go.Shelf
attribute [local go_sem] Oper.semAt_some

set_option maxRecDepth 100000 in
set_option maxHeartbeats 2000000 in
theorem appendSeq_in (n : Nat) (hn : 4 ≤ n) (Bm b : Nat) (L : List (EdT × Int)) (hL : L.length ≤ 1000000) (w : World) (hBm : Bm < w.heap.size) (hm : w.cell? ⟨Bm, 0, none⟩ = some (.map (some b))) (hown : MapIs w b gv iv OkE L) :
  CallsIn Fence.wide n Tryz.prog 185 #[.slice none 0 0, .func (.func 186) #[] #[.pointer (some ⟨Bm, 0, none⟩)]] w fun e w' => ∃ v ys, e = .returned v ∧ ys.Perm (L.map Prod.fst) ∧ RowI w 76 4 encG v ys w' := by
 have h1 : 1 ≤ n := by omega
 refine callsIn_of_wp_marks Tryz.func185 rfl trivial ?_ rfl
 simp only [Tryz.ntmps185, List.size_toArray, List.length_cons, List.length_nil, Nat.reduceAdd, Nat.reduceSub, Array.replicate_succ, Array.replicate_zero, List.push_toArray, List.append_toArray, List.nil_append, List.cons_append]
 obtain ⟨i0, hi, hz0, hz1, hz2⟩ := info_parts (show (Tryz.prog.info? 76).map (fun i => (i.zero, i.size, i.bytes)) = some (some (.agg #[.int .i64 0, .int .i64 0, .int .i64 0, .int .i64 0]), 4, 32) by kernel_rfl)
 gi_wp2
 have hBx : Boxed (w.alloc (Obj.cells #[.slice none 0 0] 71)) w.heap.size 71 (.slice none 0 0) := Boxed.new w _ _
 have hb0 : Below w.heap.size w (w.alloc (Obj.cells #[.slice none 0 0] 71)) := (Below.refl _ w).alloc (Nat.le_refl _) _
 have hsz : w.heap.size < (w.alloc (Obj.cells #[.slice none 0 0] 71)).heap.size := by simp
 have hseq := keys_stops Fence.wide (n - 1) trivial rfl (by omega) Bm b L w hBm hm hown
 generalize (w.alloc (Obj.cells #[.slice none 0 0] 71)) = W0 at hBx hb0 hsz ⊢
 refine wpIn_rangeFunc_ownH rfl h1 (gf := 186) (lb := #[.pointer (some ⟨Bm, 0, none⟩)]) rfl trivial (enters_of Tryz.func186 (by kernel_rfl) rfl)
  hseq walksK_t walksK_b hb0 (fun _ => rfl)
  (fun pre W => (∃ v, Boxed W w.heap.size 71 v ∧ W.ownsRow w.heap.size 76 4 v pre.length (pre.flatMap encG) ∧ True) ∧ Below w.heap.size w W)
  (fun _ _ _ => False)
  (OwnFrom.and (Own.from (holdsRow_own w.heap.size w.heap.size 71 76 4 (fun pre : List EdT => pre.length) (fun pre => pre.flatMap encG) (fun _ _ => True)) _) (ownFrom_below (Nat.le_refl _) (by omega)))
  (fun _ _ _ _ _ hs _ _ => hs)
  ⟨⟨_, hBx, World.ownsRow_nil _ _ _ _, trivial⟩, hb0⟩
  (fun x a' W => ∃ Bx, W.heap[Bx]? = some (Obj.cells #[.int .i64 x.1.1, .int .i64 x.1.2, .int .i64 x.2.1, .int .i64 x.2.2] 76 (0, 0)) ∧ a' = { tmps := #[.slice none 0 0, .func (.func 186) #[] #[.pointer (some ⟨Bm, 0, none⟩)], .pointer (some ⟨w.heap.size, 0, none⟩), undef, .slice none 0 0, .pointer (some ⟨Bx, 0, none⟩), .func (.func 186) #[] #[.pointer (some ⟨Bm, 0, none⟩)], gv x, undef, undef, undef, undef, undef], defers := [] })
  (fun x a' _ X Y row hs hg hr => by
   obtain ⟨Bx, h1, h2⟩ := hs
   exact ⟨Bx, (hg.block _ (blk_lt h1) (fun e => by
    obtain ⟨-, o, ho, hc⟩ := hr _ e.symm
    rw [h1] at ho; cases ho; cases hc)).trans h1, h2⟩)
  ?assign ?body ?done ?stop
 case assign =>
  rintro l pre x W K ⟨⟨v, hv, hr, _⟩, hB⟩ hK
  unfold gv
  gi_wp2
  have hb := (Below.refl W.heap.size W).alloc (Nat.le_refl _) (Obj.cells #[.int .i64 x.1.1, .int .i64 x.1.2, .int .i64 x.2.1, .int .i64 x.2.2] 76 (0, 0))
  exact hK _ _ (KeepsFrom.of_below hb) (KeepsWalks.alloc _ _) ⟨⟨v, hv.alloc _, (hr.alloc _), trivial⟩, hB.alloc hB.size _⟩ ⟨W.heap.size, heap_alloc_new _ _, rfl⟩
 case body =>
  rintro l pre x a' W hl ⟨r, hr'⟩ ⟨⟨v, hv, hrow, _⟩, hB⟩ ⟨Bx, hX, rfl⟩ hlt2
  have x0 := blk_cell hX 0
  have x1 := blk_cell hX 1
  have x2 := blk_cell hX 2
  have x3 := blk_cell hX 3
  simp only [List.getElem?_toArray, List.getElem?_cons_zero, List.getElem?_cons_succ] at x0 x1 x2 x3
  have hcv := hv.cell
  gi_wp2_with (gi_at_builtin; go_must (refine wpListIn_append_own _ rfl _ _ 71 rfl w.heap.size 76 i0 (.agg #[.int .i64 0, .int .i64 0, .int .i64 0, .int .i64 0]) 4 32 Tryz.underlying71 hi hz0 hz1 hz2 rfl (by decide) v _ _ rfl (hrow.alloc _) ⟨W.heap.size, 0, none⟩ 1 1 (encG x) rfl rfl (fun j u hu => by rw [add_off, blk_cell (heap_alloc_new _ _), ← hu]; simp [encG]) (kindG.one x) (by unfold maxLen; omega) (by omega) (by have := hB.size; simp; omega) ?_; intro v' w5 hown5 hgrow5 _; obtain ⟨g', cap', rfl⟩ := ownsRow_succ hown5; obtain ⟨hv1, hv2, hr2, hk2, hb2⟩ := hv.appended (show (71 : Nat) ≠ 76 by decide) hrow hB.size (Nat.le_refl _) hown5 hgrow5; have hc1 := hv1.cell; have hf1 := hv1.frozen))
  refine ⟨hk2.from _, ⟨hk2.size, fun k o hk hw => hk2.same k o hk (by cases o <;> first | rfl | cases hw)⟩, ⟨⟨_, hv2, ?_, trivial⟩, Below.trans hB hb2⟩⟩
  rw [List.length_append, List.flatMap_append, List.flatMap_cons, List.flatMap_nil, List.append_nil]
  exact hr2
 case done =>
  rintro D ys W hD hP ⟨⟨v, hv, hrow, _⟩, hB⟩ hK
  have hcv := hv.cell
  gi_wp2
  refine ⟨by simp, .inl ⟨_, _, rfl, run_takeDeferred hK, ?_⟩⟩
  exact ⟨_, results_tmp rfl _ _ _, v, ys, rfl, hP, Below.trans hB (belowK_b (w := w) (Nat.le_refl _) W D _ _ (by omega) hK rfl rfl), ownsRow_putObj hrow _ hK rfl⟩
 case stop =>
  rintro D c pre W _ _ h _
  exact h.elim
set_option maxHeartbeats 1000000 in
theorem collect_any (Bm b : Nat) (L : List (EdT × Int)) (hL : L.length ≤ 1000000) (w : World) (hBm : Bm < w.heap.size) (hm : w.cell? ⟨Bm, 0, none⟩ = some (.map (some b))) (hown : MapIs w b gv iv OkE L) :
  Calls Tryz.prog 166 #[.func (.func 186) #[] #[.pointer (some ⟨Bm, 0, none⟩)]] w fun e w' => ∃ v ys, e = .returned v ∧ ys.Perm (L.map Prod.fst) ∧ RowI w 76 4 encG v ys w' := by
 have HA := Lib.hid ((callsIn_wide (n := 6)).1 (appendSeq_in 6 (by omega) Bm b L hL w hBm hm hown))
 clear hm hown
 go_enter Tryz.func166, Tryz.ntmps166
 go_wp2_with (go_at_call 185; go_must (refine HA.out.mono ?_; rintro e w' ⟨v, ys, rfl, hp, hr⟩; have HP := Lib.hid hp; have HR := Lib.hid hr; clear hp hr))
 go_ret
 exact ⟨v, ys, rfl, HP.out, HR.out⟩
end Go.Proofs.YtjlnjjmomohpaaaGreat
