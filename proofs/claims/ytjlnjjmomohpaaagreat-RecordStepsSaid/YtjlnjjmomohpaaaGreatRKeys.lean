/- Layer record: the library's Keys, Collect and Sorted at a map of items: its keys by rising bytes. -/
import Derived.Test.YtjlnjjmomohpaaaGreatRSame
import Derived.Test.YtjlnjjmomohpaaaGreatPgH
namespace Go.Proofs.YtjlnjjmomohpaaaGreat
open Go.RowKit Go.Shelf
attribute [local go_sem] Oper.semAt_some

def encZ (x : ByteArray) : List Value := [.string x]
theorem kindZ : Kind 9 encZ 1 16 := Kind.mk' (z := .string ⟨#[]⟩) (fun _ => rfl) (fun a u hu => by
 simp only [encZ, List.mem_cons, List.not_mem_nil, or_false] at hu
 rcases hu with rfl
 rfl) (by decide) (by kernel_rfl) rfl
set_option maxRecDepth 100000 in
set_option maxHeartbeats 1000000 in
theorem keysS1_in (F : Fence) (n : Nat) (hf : F.fn 91) (hro : F.round = none) (hn : 1 ≤ n) (l Bm b : Nat) (L : List (ByteArray × IV)) (J Jx : List ByteArray → World → Prop)
  (hY : ∀ pre x W, J pre W → pre.length < L.length → YieldAt F (n - 1) Tryz.prog l #[sv x] W fun e W' =>
   (e = .returned (.bool true) ∧ J (pre ++ [x]) W' ∧ KeepsWalks W W') ∨ (e = .returned (.bool false) ∧ Jx (pre ++ [x]) W'))
  (W : World) (hJ : AbidesFrom W.heap.size J) (hm : W.cell? ⟨Bm, 0, none⟩ = some (.map (some b))) (hown : MapIs W b sv iV OkS L) (h0 : J [] W) :
  CallsIn F n Tryz.prog 91 #[.func (.yield l) #[] #[], .pointer (some ⟨Bm, 0, none⟩)] W fun e W' => (∃ v, e = .returned v) ∧
   ((∃ ys, ys.Perm (L.map Prod.fst) ∧ J ys W') ∨ (∃ pre, Jx pre W')) := by
 refine callsIn_of_wp Tryz.func91 rfl hf ?_ hro
 simp only [Tryz.ntmps91, List.size_toArray, List.length_cons, List.length_nil, Nat.reduceAdd, Nat.reduceSub, Array.replicate_succ, Array.replicate_zero, List.push_toArray, List.append_toArray, List.nil_append, List.cons_append]
 gi_wp2_with (gi_at_range; refine wpIn_range rfl _ 96 rfl 9 39 Tryz.underlying96 b rfl hown ?_; intro w0 hrg0 hg0 hs0)
 go_frame
 have hJ0 := hJ [] W w0 none h0 hg0 (fun r e => by cases e)
 gi_loopw [3] (fun _ wr => ∃ left ys, Ranges wr b W.heap.size sv iV OkS L left ∧ (ys ++ left.map Prod.fst).Perm (L.map Prod.fst) ∧ J ys wr) (fun _ wr => wr.rangeLeft b W.heap.size)
 case atStart => exact ⟨L, [], hrg0, List.Perm.refl _, hJ0⟩
 case round =>
  obtain ⟨left, ys, hrg, hP, hJs⟩ := hrel
  have HRS := Lib.hid hrg
  have HP := Lib.hid hP
  clear hrg hP
  gi_wp2_with (
   (gi_at_next; refine wpIn_next rfl _ rfl W.heap.size rfl HRS.out ?_ (fun l1 p l2 W5 hl hrg hg5 hs5 hen => ?_); rotate_left; (simp only [sv, iV] at hen ⊢); (have HL := Lib.hid hl); (have HRG := Lib.hid hrg); (have HG5 := Lib.hid hg5); clear hl hrg hg5 hs5; rotate_left))
  ·intro hnil
   have HPN : Hid (ys.Perm (L.map Prod.fst)) := by have := HP.out; rw [hnil] at this; unfold Hid; simpa using this
   clear hnil
   gi_wp2
   go_end0
   exact ⟨⟨_, rfl⟩, .inl ⟨ys, HPN.out, hJs⟩⟩
  ·obtain ⟨e, m⟩ := p
   have hlen : ys.length < L.length := by
    have h1 := HP.out.length_eq
    rw [List.length_append, List.length_map, List.length_map, HL.out, List.length_append, List.length_cons] at h1
    omega
   have hJ5 := hJ ys wr W5 (some W.heap.size) hJs HG5.out (fun r e => by cases e; exact ⟨Nat.le_refl _, HRS.out.walk⟩)
   have hR6 := HRG.out
   obtain ⟨fn, tmps, assign, body, hy, hR⟩ := hY ys e _ hJ5 hlen
   simp only [sv] at hy
   have HLN : Hid ((l1 ++ l2).length < left.length) := by unfold Hid; rw [HL.out]; simp
   have HP1 : Hid (((ys ++ [e]) ++ (l1 ++ l2).map Prod.fst).Perm (L.map Prod.fst)) := by
    refine List.Perm.trans ?_ HP.out
    rw [HL.out, List.append_assoc]
    refine List.Perm.append_left ys ?_
    rw [List.map_append, List.map_append, List.map_cons]
    show (e :: (l1.map Prod.fst ++ l2.map Prod.fst)).Perm (l1.map Prod.fst ++ e :: l2.map Prod.fst)
    exact List.perm_middle.symm
   gi_wp2
   refine hR.mono ?_
   rintro e' W3 (⟨rfl, hJ3, hk3⟩ | ⟨rfl, hJx3⟩)
   ·have HR3 := Lib.hid (hR6.of_walks hk3)
    clear hR6 hy hR
    gi_wp2
    go_roundw
    case rel => exact ⟨l1 ++ l2, ys ++ [e], HR3.out, HP1.out, hJ3⟩
    case measure => rw [HR3.out.left_eq, HRS.out.left_eq]; exact HLN.out
   ·clear hR6 hy hR
    gi_wp2
    refine bodyPost_ret (results_none rfl _ _ _) rfl ?_
    exact ⟨⟨_, rfl⟩, .inr ⟨_, hJx3⟩⟩
theorem keysS_stops (F : Fence) (n : Nat) (hf : F.fn 91) (hro : F.round = none) (hn : 1 ≤ n) (Bm b : Nat) (L : List (ByteArray × IV)) (w : World) (hBm : Bm < w.heap.size)
  (hm : w.cell? ⟨Bm, 0, none⟩ = some (.map (some b))) (hown : MapIs w b sv iV OkS L) :
  SeqStopsK F n Tryz.prog 91 #[.pointer (some ⟨Bm, 0, none⟩)] (fun x : ByteArray => #[sv x]) KeepsWalks (fun ys => ys.Perm (L.map Prod.fst)) (fun _ => True) L.length w := fun l J Jx W hW hJ _ hY h0 =>
 (keysS1_in F n hf hro hn l Bm b L J Jx hY W hJ ((hW.cell (p := ⟨Bm, 0, none⟩) hBm).trans hm) (hown.on hW hown.lt) h0).mono fun _ _ ⟨h1, h2⟩ => ⟨h1, h2.imp id (fun ⟨pre, h⟩ => ⟨pre, trivial, h⟩)⟩
theorem keysS_in (F : Fence) (n : Nat) (hf : F.fn 53) (hro : F.round = none) (mb : Option Nat) (w : World) :
  CallsIn F n Tryz.prog 53 #[.map mb] w fun e w' => e = .returned (.func (.func 91) #[] #[.pointer (some ⟨w.heap.size, 0, none⟩)]) ∧ w' = w.alloc (.cells #[.map mb] 96) := by
 refine callsIn_of_wp Tryz.func53 rfl hf ?_ hro
 simp only [Tryz.ntmps53, List.size_toArray, List.length_cons, List.length_nil, Nat.reduceAdd, Nat.reduceSub, Array.replicate_succ, Array.replicate_zero, List.push_toArray, List.append_toArray, List.nil_append, List.cons_append]
 gi_wp2
 go_ret
 exact ⟨rfl, rfl⟩
theorem keysS_any (mb : Option Nat) (w : World) :
  Calls Tryz.prog 53 #[.map mb] w fun e w' => e = .returned (.func (.func 91) #[] #[.pointer (some ⟨w.heap.size, 0, none⟩)]) ∧ w' = w.alloc (.cells #[.map mb] 96) :=
 (callsIn_wide (n := 3)).1 (keysS_in Fence.wide 3 trivial rfl mb w)
set_option maxRecDepth 100000 in
set_option maxHeartbeats 2000000 in
theorem appendSeqS_in (n : Nat) (hn : 4 ≤ n) (Bm b : Nat) (L : List (ByteArray × IV)) (hL : L.length ≤ 1000000) (w : World) (hBm : Bm < w.heap.size) (hm : w.cell? ⟨Bm, 0, none⟩ = some (.map (some b))) (hown : MapIs w b sv iV OkS L) :
  CallsIn Fence.wide n Tryz.prog 122 #[.slice none 0 0, .func (.func 91) #[] #[.pointer (some ⟨Bm, 0, none⟩)]] w fun e w' => ∃ v ys, e = .returned v ∧ ys.Perm (L.map Prod.fst) ∧ RowI w 9 1 encZ v ys w' := by
 have h1 : 1 ≤ n := by omega
 refine callsIn_of_wp_marks Tryz.func122 rfl trivial ?_ rfl
 simp only [Tryz.ntmps122, List.size_toArray, List.length_cons, List.length_nil, Nat.reduceAdd, Nat.reduceSub, Array.replicate_succ, Array.replicate_zero, List.push_toArray, List.append_toArray, List.nil_append, List.cons_append]
 obtain ⟨i0, hi, hz0, hz1, hz2⟩ := info_parts (show (Tryz.prog.info? 9).map (fun i => (i.zero, i.size, i.bytes)) = some (some (.string ⟨#[]⟩), 1, 16) by kernel_rfl)
 gi_wp2
 have hBx : Boxed (w.alloc (Obj.cells #[.slice none 0 0] 98)) w.heap.size 98 (.slice none 0 0) := Boxed.new w _ _
 have hb0 : Below w.heap.size w (w.alloc (Obj.cells #[.slice none 0 0] 98)) := (Below.refl _ w).alloc (Nat.le_refl _) _
 have hsz : w.heap.size < (w.alloc (Obj.cells #[.slice none 0 0] 98)).heap.size := by simp
 have hseq := keysS_stops Fence.wide (n - 1) trivial rfl (by omega) Bm b L w hBm hm hown
 generalize (w.alloc (Obj.cells #[.slice none 0 0] 98)) = W0 at hBx hb0 hsz ⊢
 refine wpIn_rangeFunc_ownH rfl h1 (gf := 91) (lb := #[.pointer (some ⟨Bm, 0, none⟩)]) rfl trivial (enters_of Tryz.func91 (by kernel_rfl) rfl)
  hseq walksK_t walksK_b hb0 (fun _ => rfl)
  (fun pre W => (∃ v, Boxed W w.heap.size 98 v ∧ W.ownsRow w.heap.size 9 1 v pre.length (pre.flatMap encZ) ∧ True) ∧ Below w.heap.size w W)
  (fun _ _ _ => False)
  (OwnFrom.and (Own.from (holdsRow_own w.heap.size w.heap.size 98 9 1 (fun pre : List ByteArray => pre.length) (fun pre => pre.flatMap encZ) (fun _ _ => True)) _) (ownFrom_below (Nat.le_refl _) (by omega)))
  (fun _ _ _ _ _ hs _ _ => hs)
  ⟨⟨_, hBx, World.ownsRow_nil _ _ _ _, trivial⟩, hb0⟩
  (fun x a' W => a' = { tmps := #[.slice none 0 0, .func (.func 91) #[] #[.pointer (some ⟨Bm, 0, none⟩)], .pointer (some ⟨w.heap.size, 0, none⟩), undef, .slice none 0 0, sv x, .func (.func 91) #[] #[.pointer (some ⟨Bm, 0, none⟩)], sv x, undef, undef, undef, undef, undef], defers := [] })
  (fun x a' _ X Y row hs hg hr => hs)
  ?assign ?body ?done ?stop
 case assign =>
  rintro l pre x W K ⟨⟨v, hv, hr, _⟩, hB⟩ hK
  unfold sv
  gi_wp2
  exact hK _ _ (KeepsFrom.refl _ _) (KeepsWalks.refl _) ⟨⟨v, hv, hr, trivial⟩, hB⟩ rfl
 case body =>
  rintro l pre x a' W hl ⟨r, hr'⟩ ⟨⟨v, hv, hrow, _⟩, hB⟩ rfl hlt2
  unfold sv
  have hcv := hv.cell
  gi_wp2_with (gi_at_builtin; go_must (refine wpListIn_append_own _ rfl _ _ 98 rfl w.heap.size 9 i0 (.string ⟨#[]⟩) 1 16 Tryz.underlying98 hi hz0 hz1 hz2 rfl (by decide) v _ _ rfl (hrow.alloc _) ⟨W.heap.size, 0, none⟩ 1 1 (encZ x) rfl rfl (fun j u hu => by rw [add_off, blk_cell (heap_alloc_new _ _), ← hu]; simp [encZ]) (kindZ.one x) (by unfold maxLen; omega) (by omega) (by have := hB.size; simp; omega) ?_; intro v' w5 hown5 hgrow5 _; obtain ⟨g', cap', rfl⟩ := ownsRow_succ hown5; obtain ⟨hv1, hv2, hr2, hk2, hb2⟩ := hv.appended (show (98 : Nat) ≠ 9 by decide) hrow hB.size (Nat.le_refl _) hown5 hgrow5; have hc1 := hv1.cell; have hf1 := hv1.frozen))
  refine ⟨hk2.from _, ⟨hk2.size, fun k o hk hw => hk2.same k o hk (by cases o <;> first | rfl | cases hw)⟩, ⟨⟨_, hv2, ?_, trivial⟩, Below.trans hB hb2⟩⟩
  rw [List.length_append, List.flatMap_append, List.flatMap_cons, List.flatMap_nil, List.append_nil]
  exact hr2
 case done =>
  rintro D ys W hD hP ⟨⟨v, hv, hrow, _⟩, hB⟩ hK
  have hcv := hv.cell
  gi_wp2
  refine ⟨by simp, .inl ⟨_, _, rfl, run_takeDeferred hK, ?_⟩⟩
  exact ⟨_, results_tmp rfl _ _ _, v, ys, rfl, hP, Below.trans hB (belowK_b (w := w) (Nat.le_refl _) W D _ _ (by omega) hK rfl rfl), ownsRow_putObj hrow _ hK rfl⟩
 case stop =>
  rintro D c pre W _ _ h _
  exact h.elim
set_option maxHeartbeats 1000000 in
theorem collectS_any (Bm b : Nat) (L : List (ByteArray × IV)) (hL : L.length ≤ 1000000) (w : World) (hBm : Bm < w.heap.size) (hm : w.cell? ⟨Bm, 0, none⟩ = some (.map (some b))) (hown : MapIs w b sv iV OkS L) :
  Calls Tryz.prog 89 #[.func (.func 91) #[] #[.pointer (some ⟨Bm, 0, none⟩)]] w fun e w' => ∃ v ys, e = .returned v ∧ ys.Perm (L.map Prod.fst) ∧ RowI w 9 1 encZ v ys w' := by
 have HA := Lib.hid ((callsIn_wide (n := 6)).1 (appendSeqS_in 6 (by omega) Bm b L hL w hBm hm hown))
 clear hm hown
 go_enter Tryz.func89, Tryz.ntmps89
 go_wp2_with (go_at_call 122; go_must (refine HA.out.mono ?_; rintro e w' ⟨v, ys, rfl, hp, hr⟩; have HP := Lib.hid hp; have HR := Lib.hid hr; clear hp hr))
 go_ret
 exact ⟨v, ys, rfl, HP.out, HR.out⟩
end Go.Proofs.YtjlnjjmomohpaaaGreat

namespace Go.Proofs.YtjlnjjmomohpaaaGreat
open Go.RowKit Go.Sort
def RowS (w0 W : World) (g off : Nat) (d : Array (List UInt8)) : Prop := Below w0.heap.size w0 W ∧ w0.heap.size ≤ g ∧ g < W.heap.size ∧ Holds encStr W g off d
theorem RowS.on {w0 W W' : World} {g off : Nat} {d : Array (List UInt8)} (h : RowS w0 W g off d) (hb : Below W.heap.size W W') : RowS w0 W' g off d :=
 ⟨h.1.trans (hb.mono h.1.size), h.2.1, Nat.lt_of_lt_of_le h.2.2.1 hb.size, fun j hj => ⟨(hb.cell (p := ⟨g, off + j, none⟩) h.2.2.1).trans (h.2.2.2 j hj).1, (hb.frozen (p := ⟨g, off + j, none⟩) h.2.2.1).trans (h.2.2.2 j hj).2⟩⟩
theorem bl_lt (a b : List UInt8) : bl a b = decide (a < b) := bytesLess_eq a b
theorem pw_bl : ∀ {l : List (List UInt8)}, l.Pairwise (fun a b => bl b a = false) → l.Nodup → l.Pairwise (fun a b => bl a b = true)
 |[], _, _ => List.Pairwise.nil
 |a :: l, h, hn => by
  obtain ⟨h1, h2⟩ := List.pairwise_cons.1 h
  obtain ⟨h3, h4⟩ := List.nodup_cons.1 hn
  refine List.pairwise_cons.2 ⟨fun b hb => ?_, pw_bl h2 h4⟩
  have := h1 b hb
  have hne : a ≠ b := fun e => h3 (e ▸ hb)
  rcases bl_total a b hne with h5 | h5
  ·exact h5
  ·rw [this] at h5; cases h5
theorem merge_bl (l : List (List UInt8)) : (l.mergeSort fun x y => decide (x ≤ y)).Pairwise (fun a b => bl b a = false) := by
 have h := List.pairwise_mergeSort (le := fun x y : List UInt8 => decide (x ≤ y)) (fun a b c h1 h2 => by simp only [decide_eq_true_eq] at h1 h2 ⊢; exact List.le_trans h1 h2) (fun a b => by simp only [Bool.or_eq_true, decide_eq_true_eq]; exact List.le_total a b) l
 exact h.imp fun {a b} h => by
  simp only [decide_eq_true_eq] at h
  rw [bl_lt]
  simpa using h
def bsL (s : ByteArray) : List UInt8 := s.data.toList
theorem bsL_inj {s t : ByteArray} (h : bsL s = bsL t) : s = t := by
 cases s; cases t
 unfold bsL at h
 simp only [ByteArray.mk.injEq]
 exact Array.toList_inj.1 h
set_option maxHeartbeats 1000000 in
theorem sortS_any (w W : World) (v : Value) (ys : List ByteArray) (hln : ys.length ≤ 1000000) (hr : RowI w 9 1 encZ v ys W) :
  Calls Tryz.prog 90 #[v] W fun e W' => e = .returned (.tuple #[]) ∧ ((ys = [] ∧ v = .slice none 0 0 ∧ Below w.heap.size w W') ∨ ∃ g cap, v = .slice (some ⟨g, 0, none⟩) ys.length cap ∧ ys.length ≤ cap ∧ ys.length ≤ maxLen ∧ RowS w W' g 0 ((ys.map bsL).mergeSort fun x y => decide (x ≤ y)).toArray) := by
 obtain ⟨hB, hl, ⟨rfl, h0⟩ | ⟨g, cap, cur, rfl, hb, hg, hn, hc, hs, ht⟩⟩ := hr
 ·have e0 : ys = [] := List.length_eq_zero_iff.1 h0
  exact (Tryz.slices_Sort_string_none none 0 W).mono fun e W' ⟨h1, h2⟩ => ⟨h1, .inl ⟨e0, rfl, by rw [h2]; exact hB⟩⟩
 ·have hH : Holds encStr W g 0 (ys.map bsL).toArray := fun j hj => by
   have hj' : j < ys.length := by simpa using hj
   rw [Nat.zero_add]
   refine ⟨?_, blk_frozen hg j⟩
   rw [blk_cell hg j, ← Array.getElem?_toList]
   have h2 : (cur.toList.take (ys.length * 1))[j]? = cur.toList[j]? := List.getElem?_take_of_lt (by omega)
   rw [← h2, ht]
   have h3 := flat_get (enc := encZ) (n := 1) (fun _ => rfl) ys j ys[j] 0 (List.getElem?_eq_getElem hj') (by omega)
   rw [Nat.mul_one, Nat.add_zero] at h3
   rw [h3]
   simp [encZ, hj', bsL]
  have hlt := blk_lt hg
  have hml : ys.length ≤ maxLen := by omega
  have hcl := Tryz.slices_Sort_string g 0 cap (ys.map bsL) W hH hlt (by rw [List.length_map]; omega)
  rw [List.length_map] at hcl
  refine hcl.mono ?_
  rintro e W' ⟨h1, n, os, rfl⟩
  refine ⟨h1, .inr ⟨g, cap, rfl, hn, hml, ⟨hB.os, hB.tape, hB.output, by rw [size_grow, size_putRow]; exact Nat.le_trans hB.size (Nat.le_add_right _ _), fun k hk => ?_⟩, hb, by rw [size_grow, size_putRow]; exact Nat.lt_of_lt_of_le hlt (Nat.le_add_right _ _), ?_⟩⟩
  ·have hkW : k < W.heap.size := Nat.lt_of_lt_of_le hk hB.size
   rw [heap_grow_old _ _ (by rw [size_putRow]; exact hkW)]
   have hne : g ≠ k := by omega
   show (W.heap.modify g _)[k]? = _
   rw [Array.getElem?_modify, if_neg hne]
   exact hB.block k hk
  ·exact holds_grow _ _ _ _ _ _ (by rw [size_putRow]; exact hlt) (holds_putRow _ _ _ _ _ _ (holds_ahead _ _ _ _ _ _ hH) (by simp))
set_option maxHeartbeats 1000000 in
theorem sortedS_any (Bm b : Nat) (L : List (ByteArray × IV)) (hL : L.length ≤ 1000000) (w : World) (hBm : Bm < w.heap.size) (hm : w.cell? ⟨Bm, 0, none⟩ = some (.map (some b))) (hown : MapIs w b sv iV OkS L) :
  Calls Tryz.prog 52 #[.func (.func 91) #[] #[.pointer (some ⟨Bm, 0, none⟩)]] w fun e w' => ∃ zs : List (List UInt8), zs.Perm (L.map fun p => bsL p.1) ∧ zs.Pairwise (fun a b => bl a b = true) ∧ ((zs = [] ∧ e = .returned (.slice none 0 0) ∧ Below w.heap.size w w') ∨ ∃ g cap, e = .returned (.slice (some ⟨g, 0, none⟩) zs.length cap) ∧ zs.length ≤ cap ∧ zs.length ≤ maxLen ∧ RowS w w' g 0 zs.toArray) := by
 have HC := Lib.hid (collectS_any Bm b L hL w hBm hm hown)
 have HND := Lib.hid hown.nodup
 clear hm hown
 go_enter Tryz.func52, Tryz.ntmps52
 go_upto_region 2 with (go_at_call 89; go_must (refine HC.out.mono ?_; rintro e w' ⟨v, ys, rfl, hp, hr⟩; have HP := Lib.hid hp; have HR := Lib.hid hr; clear hp hr))
 have HPP : Hid ((ys.map bsL).Perm (L.map fun p => bsL p.1)) := by have := HP.out.map bsL; rw [List.map_map] at this; exact this
 have HPM := Lib.hid ((List.mergeSort_perm (ys.map bsL) fun x y => decide (x ≤ y)).trans HPP.out)
 have HNN : Hid ((L.map fun p => bsL p.1).Nodup) := by
  have := HND.out
  unfold Hid List.Nodup at *
  rw [List.pairwise_map] at this ⊢
  exact this.imp fun h e => h (bsL_inj e)
 have HPW := Lib.hid (pw_bl (merge_bl (ys.map bsL)) (HPM.out.nodup_iff.2 HNN.out))
 have HLN : Hid (((ys.map bsL).mergeSort fun x y => decide (x ≤ y)).length = ys.length) := Lib.hid ((List.mergeSort_perm (ys.map bsL) fun x y => decide (x ≤ y)).length_eq.trans (List.length_map ..))
 have HNIL : Hid (ys = [] → ((ys.map bsL).mergeSort fun x y => decide (x ≤ y)) = []) := fun e => by subst e; simp
 have HS := Lib.hid (sortS_any w w' v ys (by have := HP.out.length_eq; rw [List.length_map] at this; omega) HR.out)
 generalize hzs : ((ys.map bsL).mergeSort fun x y => decide (x ≤ y)) = zs at *
 have HQ := Lib.hid hzs
 clear hzs
 go_wp2_with (go_at_call 90; go_must (refine HS.out.mono ?_; rintro e W3 ⟨rfl, h3⟩; have H3 := Lib.hid h3; clear h3))
 go_ret
 refine ⟨zs, HPM.out, HPW.out, ?_⟩
 rcases H3.out with ⟨h1, h2, h3⟩ | ⟨g, cap, h1, h2, h3, h4⟩
 ·exact .inl ⟨HNIL.out h1, by rw [h2]; rfl, h3⟩
 ·refine .inr ⟨g, cap, by rw [h1, HLN.out]; rfl, by rw [HLN.out]; exact h2, by rw [HLN.out]; exact h3, ?_⟩
  first | exact h4 | (rw [HQ.out] at h4; exact h4)
end Go.Proofs.YtjlnjjmomohpaaaGreat
