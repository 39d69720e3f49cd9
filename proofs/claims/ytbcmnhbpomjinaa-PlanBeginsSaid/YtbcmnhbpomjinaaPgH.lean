/- The library's Collect at an iterator over a map's edges. -/
import Derived.Test.YtbcmnhbpomjinaaPgG
namespace Go.Proofs.Ytbcmnhbpomjinaa
open Go.RowKit Go.Shelf
attribute [local go_sem] Oper.semAt_some

set_option maxRecDepth 100000 in
set_option maxHeartbeats 2000000 in
theorem appendSeq_in (n : Nat) (hn : 4 ≤ n) (Bm b : Nat) (L : List (EdT × Int)) (hL : L.length ≤ 1000000) (w : World) (hBm : Bm < w.heap.size) (hm : w.cell? ⟨Bm, 0, none⟩ = some (.map (some b))) (hown : MapIs w b gv iv OkE L) :
    CallsIn Fence.wide n Try.prog 92 #[.slice none 0 0, .func (.func 93) #[] #[.pointer (some ⟨Bm, 0, none⟩)]] w fun e w' => ∃ v ys, e = .returned v ∧ ys.Perm (L.map Prod.fst) ∧ RowI w 60 4 encG v ys w' := by
  have h1 : 1 ≤ n := by omega
  refine callsIn_of_wp_marks Try.func92 rfl trivial ?_ rfl
  simp only [Try.ntmps92, List.size_toArray, List.length_cons, List.length_nil, Nat.reduceAdd, Nat.reduceSub, Array.replicate_succ, Array.replicate_zero, List.push_toArray, List.append_toArray, List.nil_append, List.cons_append]
  obtain ⟨i0, hi, hz0, hz1, hz2⟩ := info_parts (show (Try.prog.info? 60).map (fun i => (i.zero, i.size, i.bytes)) = some (some (.agg #[.int .i64 0, .int .i64 0, .int .i64 0, .int .i64 0]), 4, 32) by kernel_rfl)
  gi_wp2
  have hBx : Boxed (w.alloc (Obj.cells #[.slice none 0 0] 55)) w.heap.size 55 (.slice none 0 0) := Boxed.new w _ _
  have hb0 : Below w.heap.size w (w.alloc (Obj.cells #[.slice none 0 0] 55)) := (Below.refl _ w).alloc (Nat.le_refl _) _
  have hsz : w.heap.size < (w.alloc (Obj.cells #[.slice none 0 0] 55)).heap.size := by simp
  have hseq := keys_stops Fence.wide (n - 1) trivial rfl (by omega) Bm b L w hBm hm hown
  generalize (w.alloc (Obj.cells #[.slice none 0 0] 55)) = W0 at hBx hb0 hsz ⊢
  refine wpIn_rangeFunc_ownH rfl h1 (gf := 93) (lb := #[.pointer (some ⟨Bm, 0, none⟩)]) rfl trivial (enters_of Try.func93 (by kernel_rfl) rfl)
    hseq walksK_t walksK_b hb0 (fun _ => rfl)
    (fun pre W => (∃ v, Boxed W w.heap.size 55 v ∧ W.ownsRow w.heap.size 60 4 v pre.length (pre.flatMap encG) ∧ True) ∧ Below w.heap.size w W)
    (fun _ _ _ => False)
    (OwnFrom.and (Own.from (holdsRow_own w.heap.size w.heap.size 55 60 4 (fun pre : List EdT => pre.length) (fun pre => pre.flatMap encG) (fun _ _ => True)) _) (ownFrom_below (Nat.le_refl _) (by omega)))
    (fun _ _ _ _ _ hs _ _ => hs)
    ⟨⟨_, hBx, World.ownsRow_nil _ _ _ _, trivial⟩, hb0⟩
    (fun x a' W => ∃ Bx, W.heap[Bx]? = some (Obj.cells #[.int .i64 x.1.1, .int .i64 x.1.2, .int .i64 x.2.1, .int .i64 x.2.2] 60 (0, 0)) ∧ a' = { tmps := #[.slice none 0 0, .func (.func 93) #[] #[.pointer (some ⟨Bm, 0, none⟩)], .pointer (some ⟨w.heap.size, 0, none⟩), undef, .slice none 0 0, .pointer (some ⟨Bx, 0, none⟩), .func (.func 93) #[] #[.pointer (some ⟨Bm, 0, none⟩)], gv x, undef, undef, undef, undef, undef], defers := [] })
    (fun x a' _ X Y row hs hg hr => by
      obtain ⟨Bx, h1, h2⟩ := hs
      exact ⟨Bx, (hg.block _ (blk_lt h1) (fun e => by
        obtain ⟨-, o, ho, hc⟩ := hr _ e.symm
        rw [h1] at ho; cases ho; cases hc)).trans h1, h2⟩)
    ?assign ?body ?done ?stop
  case assign =>
    rintro l pre x W K ⟨⟨v, hv, hr, _⟩, hB⟩ hK
    unfold gv
    gi_wp2
    have hb := (Below.refl W.heap.size W).alloc (Nat.le_refl _) (Obj.cells #[.int .i64 x.1.1, .int .i64 x.1.2, .int .i64 x.2.1, .int .i64 x.2.2] 60 (0, 0))
    exact hK _ _ (KeepsFrom.of_below hb) (KeepsWalks.alloc _ _) ⟨⟨v, hv.alloc _, (hr.alloc _), trivial⟩, hB.alloc hB.size _⟩ ⟨W.heap.size, heap_alloc_new _ _, rfl⟩
  case body =>
    rintro l pre x a' W hl ⟨r, hr'⟩ ⟨⟨v, hv, hrow, _⟩, hB⟩ ⟨Bx, hX, rfl⟩ hlt2
    have x0 := blk_cell hX 0
    have x1 := blk_cell hX 1
    have x2 := blk_cell hX 2
    have x3 := blk_cell hX 3
    simp only [List.getElem?_toArray, List.getElem?_cons_zero, List.getElem?_cons_succ] at x0 x1 x2 x3
    have hcv := hv.cell
    gi_wp2_with (gi_at_builtin; go_must (refine wpListIn_append_own _ rfl _ _ 55 rfl w.heap.size 60 i0 (.agg #[.int .i64 0, .int .i64 0, .int .i64 0, .int .i64 0]) 4 32 Try.underlying55 hi hz0 hz1 hz2 rfl (by decide) v _ _ rfl (hrow.alloc _) ⟨W.heap.size, 0, none⟩ 1 1 (encG x) rfl rfl (fun j u hu => by rw [add_off, blk_cell (heap_alloc_new _ _), ← hu]; simp [encG]) (kindG.one x) (by unfold maxLen; omega) (by omega) (by have := hB.size; simp; omega) ?_; intro v' w5 hown5 hgrow5 _; obtain ⟨g', cap', rfl⟩ := ownsRow_succ hown5; obtain ⟨hv1, hv2, hr2, hk2, hb2⟩ := hv.appended (show (55 : Nat) ≠ 60 by decide) hrow hB.size (Nat.le_refl _) hown5 hgrow5; have hc1 := hv1.cell; have hf1 := hv1.frozen))
    refine ⟨hk2.from _, ⟨hk2.size, fun k o hk hw => hk2.same k o hk (by cases o <;> first | rfl | cases hw)⟩, ⟨⟨_, hv2, ?_, trivial⟩, Below.trans hB hb2⟩⟩
    rw [List.length_append, List.flatMap_append, List.flatMap_cons, List.flatMap_nil, List.append_nil]
    exact hr2
  case done =>
    rintro D ys W hD hP ⟨⟨v, hv, hrow, _⟩, hB⟩ hK
    have hcv := hv.cell
    gi_wp2
    refine ⟨by simp, .inl ⟨_, _, rfl, run_takeDeferred hK, ?_⟩⟩
    exact ⟨_, results_tmp rfl _ _ _, v, ys, rfl, hP, Below.trans hB (belowK_b (w := w) (Nat.le_refl _) W D _ _ (by omega) hK rfl rfl), ownsRow_putObj hrow _ hK rfl⟩
  case stop =>
    rintro D c pre W _ _ h _
    exact h.elim
set_option maxHeartbeats 1000000 in
theorem collect_any (Bm b : Nat) (L : List (EdT × Int)) (hL : L.length ≤ 1000000) (w : World) (hBm : Bm < w.heap.size) (hm : w.cell? ⟨Bm, 0, none⟩ = some (.map (some b))) (hown : MapIs w b gv iv OkE L) :
    Calls Try.prog 79 #[.func (.func 93) #[] #[.pointer (some ⟨Bm, 0, none⟩)]] w fun e w' => ∃ v ys, e = .returned v ∧ ys.Perm (L.map Prod.fst) ∧ RowI w 60 4 encG v ys w' := by
  have HA := Lib.hid ((callsIn_wide (n := 6)).1 (appendSeq_in 6 (by omega) Bm b L hL w hBm hm hown))
  clear hm hown
  go_enter Try.func79, Try.ntmps79
  go_wp2_with (go_at_call 92; go_must (refine HA.out.mono ?_; rintro e w' ⟨v, ys, rfl, hp, hr⟩; have HP := Lib.hid hp; have HR := Lib.hid hr; clear hp hr))
  go_ret
  exact ⟨v, ys, rfl, HP.out, HR.out⟩
end Go.Proofs.Ytbcmnhbpomjinaa
