/- Layer ring's own iterator over a ring's edges: its contract. -/
import Derived.RangeFuncNested
import Derived.RangeFuncBound
import Derived.RangeFuncCalls
import Derived.RangeFuncLeaves
import Derived.Shelf.Abstract
import Derived.WalkKit
import Derived.OwnWalkIn
import Derived.TacticsInMore
import Derived.LoopNIn
import Derived.LoopIn
import Derived.Test.YtkkdjbmdfpmkpaaInside
import Derived.Test.YtkkdjbmdfpmkpaaRimP
namespace Go.Proofs.Ytkkdjbmdfpmkpaa
open Go.RowKit Go.Shelf

attribute [local go_sem] Oper.semAt_some

/-- An edge, and the k-th round's two loop variables. -/
def edV (a b : Int × Int) : Value := .agg #[.int .i64 a.1, .int .i64 a.2, .int .i64 b.1, .int .i64 b.2]
def encE (ps : List (Int × Int)) (x : Fin ps.length) : Array Value := #[.int .i64 (x.1 : Int), edV (nx ps x.1) (nx ps (x.1 + 1))]
/-- What a round keeps: all below n₀, and every block that holds a point or a ring. -/
def Kept (n₀ : Nat) (W W' : World) : Prop := Below n₀ W W' ∧ ∀ (k : Nat) (cs : Array Value) (t : TypeId) (fz : Nat × Nat), W.heap[k]? = some (Obj.cells cs t fz) → t = 35 ∨ t = 23 → W'.heap[k]? = some (Obj.cells cs t fz)
section
variable {n₀ : Nat} {w W W' X Y Z : World}
theorem Kept.refl (n₀ : Nat) (W : World) : Kept n₀ W W := ⟨Below.refl _ _, fun _ _ _ _ h _ => h⟩
theorem Kept.trans (h : Kept n₀ X Y) (k : Kept n₀ Y Z) : Kept n₀ X Z := ⟨h.1.trans k.1, fun i cs t fz hi ht => k.2 i cs t fz (h.2 i cs t fz hi ht) ht⟩
theorem Kept.put (hn : n₀ ≤ w.heap.size) (W : World) (l : Nat) (o o' : Obj) (hl : w.heap.size ≤ l) (h : W.heap[l]? = some o) (hc : o.isCells = false) (hw : o.isWalk = false) : Kept n₀ W (W.putObj l o') :=
  ⟨belowK_b hn W l o o' hl h hc hw, fun k _ _ _ hk _ => (World.putObj_heap_other (fun e => by subst e; rw [hk] at h; cases h; cases hc)).trans hk⟩
theorem Kept.of_below (h : Below W.heap.size W W') (hn : n₀ ≤ W.heap.size) : Kept n₀ W W' := ⟨h.mono hn, fun k _ _ _ hk _ => (h.block k (blk_lt hk)).trans hk⟩
/-- A store into a block of another type. -/
theorem Kept.set {g : Nat} {cs : Array Value} {t : TypeId} {fz : Nat × Nat} (hg : W.heap[g]? = some (Obj.cells cs t fz)) (h1 : t ≠ 35) (h2 : t ≠ 23) (hn : n₀ ≤ g) (i : Nat) (v : Value) : Kept n₀ W (W.setCell ⟨g, i, none⟩ v) :=
  ⟨(Below.refl n₀ W).setCell (p := ⟨g, i, none⟩) hn _, fun k _ _ _ hk ht => (Below.heap_setCell _ _ _ k (fun e => by
    simp only at e
    subst e; rw [hk] at hg; cases hg
    rcases ht with rfl | rfl
    · exact h1 rfl
    · exact h2 rfl)).trans hk⟩
end

theorem take_next {n k : Nat} (h : k < n) : (List.finRange n).take (k + 1) = (List.finRange n).take k ++ [⟨k, h⟩] := by
  rw [List.take_succ_eq_append_getElem (by simpa using h)]
  simp

set_option maxRecDepth 100000 in
set_option maxHeartbeats 4000000 in
theorem edges1_in (F : Fence) (n : Nat) (hf : F.fn 48) (hro : F.round = none) (hn : 1 ≤ n) (l Bs n₀ : Nat) (ps : List (Int × Int)) (A : Option Addr) (cap : Nat) (hlen : ps.length ≤ 128) (J Jx : List (Fin ps.length) → World → Prop) (w W : World) (hJ : AbidesFrom W.heap.size J)
    (hY : ∀ pre x W, J pre W → pre.length < ps.length → YieldAt F (n - 1) Try.prog l (encE ps x) W fun e W' =>
      (e = .returned (.bool true) ∧ J (pre ++ [x]) W' ∧ Kept n₀ W W') ∨ (e = .returned (.bool false) ∧ Jx (pre ++ [x]) W'))
    (hn0 : n₀ = w.heap.size) (hp : Pts w n₀ A ps) (hwW : Below n₀ w W) (hb0 : n₀ ≤ Bs) (hBs : W.heap[Bs]? = some (Obj.cells #[.slice A ps.length cap] 23 (0, 0))) (h0 : J [] W) :
    CallsIn F n Try.prog 48 #[.func (.yield l) #[] #[], .pointer (some ⟨Bs, 0, none⟩)] W fun e W' => (∃ v, e = .returned v) ∧
      ((∃ ys, ys = List.finRange ps.length ∧ J ys W') ∨ (∃ pre, Jx pre W')) := by
  subst hn0
  have hc0 : W.cell? ⟨Bs, 0, none⟩ = some (.slice A ps.length cap) := blk_cell hBs 0
  refine callsIn_of_wp Try.func48 rfl hf ?_ hro
  simp only [Try.ntmps48, List.size_toArray, List.length_cons, List.length_nil, Nat.reduceAdd, Nat.reduceSub, Array.replicate_succ, Array.replicate_zero, List.push_toArray, List.append_toArray, List.nil_append, List.cons_append]
  gi_wp2
  gi_loopw [7] (fun i wr => ∃ k : Nat, k ≤ ps.length ∧ i = .int .i64 k ∧ J ((List.finRange ps.length).take k) wr ∧ Kept w.heap.size W wr)
    (fun i _ => ps.length - (intOf i).toNat)
  case atStart => exact ⟨0, Nat.zero_le _, rfl, h0, Kept.refl _ _⟩
  case round =>
    obtain ⟨k, hk, rfl, hJs, hK⟩ := hrel
    by_cases hlt : k < ps.length
    · obtain ⟨j, hj, hj1, hj2, hj3⟩ := next_place hlt
      have hBw := hwW.trans hK.1
      obtain ⟨ad, rfl, hadb, d0, d1⟩ := hp.nx hBw hlt (Nat.mod_eq_of_lt hlt)
      obtain ⟨ad', e, -, e0, e1⟩ := hp.nx hBw hj hj1
      obtain rfl := Option.some.inj e
      have hBr : wr.heap[Bs]? = some (Obj.cells #[.slice (some ad) ps.length cap] 23 (0, 0)) := hK.2 _ _ _ _ hBs (.inr rfl)
      have hcb : wr.cell? ⟨Bs, 0, none⟩ = some (.slice (some ad) ps.length cap) := blk_cell hBr 0
      gi_wp2_with fail
      have hbr : Bs < wr.heap.size := blk_lt hBr
      have HW : ∀ i u, wr.cell? i = some u → (wr.alloc (Obj.cells #[Value.int IntKind.i64 (nx ps k).fst, Value.int IntKind.i64 (nx ps k).snd] 35)).cell? i = some u := fun i u h => cell_kept h (World.grownBy_alloc wr _ none) (fun r e => by cases e)
      have c0 : (wr.alloc (Obj.cells #[Value.int IntKind.i64 (nx ps k).fst, Value.int IntKind.i64 (nx ps k).snd] 35)).cell? ⟨wr.heap.size, 0, none⟩ = some (.int .i64 (nx ps k).1) := blk_cell (heap_alloc_new _ _) 0
      have c1 : (wr.alloc (Obj.cells #[Value.int IntKind.i64 (nx ps k).fst, Value.int IntKind.i64 (nx ps k).snd] 35)).cell? ⟨wr.heap.size, 1, none⟩ = some (.int .i64 (nx ps k).2) := blk_cell (heap_alloc_new _ _) 1
      have hJ2 := hJ _ wr (wr.alloc (Obj.cells #[Value.int IntKind.i64 (nx ps k).fst, Value.int IntKind.i64 (nx ps k).snd] 35)).drew none hJs ⟨rfl, rfl, rfl, by simp [World.drew], fun i hi _ => Below.heap_alloc wr _ i hi⟩ (fun r e => by cases e)
      have hK2 : Kept w.heap.size W (wr.alloc (Obj.cells #[Value.int IntKind.i64 (nx ps k).fst, Value.int IntKind.i64 (nx ps k).snd] 35)).drew := hK.trans (Kept.of_below (((Below.refl wr.heap.size wr).alloc (Nat.le_refl _) _).drew) (by omega))
      have hN2 := heap_alloc_new wr (Obj.cells #[Value.int IntKind.i64 (nx ps k).fst, Value.int IntKind.i64 (nx ps k).snd] 35)
      have hB2 := blk_alloc hBr (Obj.cells #[Value.int IntKind.i64 (nx ps k).fst, Value.int IntKind.i64 (nx ps k).snd] 35)
      replace e0 := HW _ _ e0
      replace e1 := HW _ _ e1
      replace hcb := HW _ _ hcb
      clear HW
      generalize (wr.alloc (Obj.cells #[Value.int IntKind.i64 (nx ps k).fst, Value.int IntKind.i64 (nx ps k).snd] 35)) = W2 at *
      obtain ⟨fn, tmps, assign, body, hy, hR⟩ := hY _ ⟨k, hlt⟩ W2.drew hJ2 (by rw [List.length_take, List.length_finRange]; omega)
      unfold encE edV at hy
      dsimp only at hy
      refine Draws.start (X := [12, 13]) (S := fun w' => w'.cell? ⟨wr.heap.size, 0, none⟩ = some (.int .i64 (nx ps k).1) ∧ w'.cell? ⟨wr.heap.size, 1, none⟩ = some (.int .i64 (nx ps k).2) ∧ w'.cell? ⟨Bs, 0, none⟩ = some (.slice (some ad) ps.length cap) ∧ w'.cell? (ad.add (j * 2)) = some (.int .i64 (nx ps (k + 1)).1) ∧ w'.cell? ⟨(ad.add (j * 2)).block, (ad.add (j * 2)).off + 1, none⟩ = some (.int .i64 (nx ps (k + 1)).2)) (by kernel_rfl) ?_
      have hHeld : (fun w' : World => w'.cell? ⟨wr.heap.size, 0, none⟩ = some (.int .i64 (nx ps k).1) ∧ w'.cell? ⟨wr.heap.size, 1, none⟩ = some (.int .i64 (nx ps k).2) ∧ w'.cell? ⟨Bs, 0, none⟩ = some (.slice (some ad) ps.length cap) ∧ w'.cell? (ad.add (j * 2)) = some (.int .i64 (nx ps (k + 1)).1) ∧ w'.cell? ⟨(ad.add (j * 2)).block, (ad.add (j * 2)).off + 1, none⟩ = some (.int .i64 (nx ps (k + 1)).2)) W2.drew := ⟨c0, c1, hcb, e0, e1⟩
      have hk0 : IntKind.i64.wrap ((k : Int) + 1) = (k : Int) + 1 := by rw [IntKind.wrap_i64]; omega
      have hn1 : ¬ ps.length = 0 := by omega
      have hn2 : ¬ ps = [] := by rintro rfl; simp at hn1
      refine Draws.take (i := 0) (v := ?_) (by decide +kernel) rfl (by rfl) (fun _ => rfl) (by decide +kernel) (by decide +kernel) (by decide +kernel) (by decide +kernel) (fun _ _ _ h => h) (by assumption) ?_ ?_
      rotate_left
      focus (intro w0 hSw; (try dsimp only at hSw); go_simp; (try (with_reducible rfl)); done)
      (try simp only [Act.put, List.getElem_toArray, List.getElem_cons_zero, List.setIfInBounds_toArray, List.set_cons_zero, List.set_cons_succ])
      refine Draws.take (i := 1) (v := ?_) (by decide +kernel) rfl (by rfl) (fun _ => rfl) (by decide +kernel) (by decide +kernel) (by decide +kernel) (by decide +kernel) (fun _ _ _ h => h) (by assumption) ?_ ?_
      rotate_left
      focus (intro w0 hSw; (try dsimp only at hSw); go_simp; (try (with_reducible rfl)); done)
      (try simp only [Act.put, List.getElem_toArray, List.getElem_cons_zero, List.getElem_cons_succ, List.setIfInBounds_toArray, List.set_cons_zero, List.set_cons_succ])
      refine Draws.take (i := 2) (v := ?_) (by decide +kernel) rfl (by rfl) (fun _ => rfl) (by decide +kernel) (by decide +kernel) (by decide +kernel) (by decide +kernel) (fun _ _ _ h => h) (by assumption) ?_ ?_
      rotate_left
      focus (intro w0 hSw; (try dsimp only at hSw); go_simp; (try (with_reducible rfl)); done)
      (try simp only [Act.put, List.getElem_toArray, List.getElem_cons_zero, List.getElem_cons_succ, List.setIfInBounds_toArray, List.set_cons_zero, List.set_cons_succ])
      refine Draws.take (i := 3) (v := ?_) (by decide +kernel) rfl (by rfl) (fun _ => rfl) (by decide +kernel) (by decide +kernel) (by decide +kernel) (by decide +kernel) (fun _ _ _ h => h) (by assumption) ?_ ?_
      rotate_left
      focus (intro w0 hSw; (try dsimp only at hSw); go_simp; (try (with_reducible rfl)); done)
      (try simp only [Act.put, List.getElem_toArray, List.getElem_cons_zero, List.getElem_cons_succ, List.setIfInBounds_toArray, List.set_cons_zero, List.set_cons_succ])
      refine Draws.take (i := 4) (v := ?_) (by decide +kernel) rfl (by rfl) (fun _ => rfl) (by decide +kernel) (by decide +kernel) (by decide +kernel) (by decide +kernel) (fun _ _ _ h => h) (by assumption) ?_ ?_
      rotate_left
      focus (intro w0 hSw; (try dsimp only at hSw); go_simp; (try (with_reducible rfl)); done)
      (try simp only [Act.put, List.getElem_toArray, List.getElem_cons_zero, List.getElem_cons_succ, List.setIfInBounds_toArray, List.set_cons_zero, List.set_cons_succ])
      refine Draws.take (i := 5) (v := ?_) (by decide +kernel) rfl (by rfl) (fun _ => rfl) (by decide +kernel) (by decide +kernel) (by decide +kernel) (by decide +kernel) (fun _ _ _ h => h) (by assumption) ?_ ?_
      rotate_left
      focus (intro w0 hSw; (try dsimp only at hSw); go_simp; (try (with_reducible rfl)); done)
      (try simp only [Act.put, List.getElem_toArray, List.getElem_cons_zero, List.getElem_cons_succ, List.setIfInBounds_toArray, List.set_cons_zero, List.set_cons_succ])
      refine Draws.take (i := 6) (v := ?_) (by decide +kernel) rfl (by rfl) (fun _ => rfl) (by decide +kernel) (by decide +kernel) (by decide +kernel) (by decide +kernel) (fun _ _ _ h => h) (by assumption) ?_ ?_
      rotate_left
      focus (intro w0 hSw; (try dsimp only at hSw); go_simp; (try (with_reducible rfl)); done)
      (try simp only [Act.put, List.getElem_toArray, List.getElem_cons_zero, List.getElem_cons_succ, List.setIfInBounds_toArray, List.set_cons_zero, List.set_cons_succ])
      refine Draws.take (i := 7) (v := ?_) (by decide +kernel) rfl (by rfl) (fun _ => rfl) (by decide +kernel) (by decide +kernel) (by decide +kernel) (by decide +kernel) (fun _ _ _ h => h) (by assumption) ?_ ?_
      rotate_left
      focus (intro w0 hSw; (try dsimp only at hSw); go_simp; (try (with_reducible rfl)); done)
      (try simp only [Act.put, List.getElem_toArray, List.getElem_cons_zero, List.getElem_cons_succ, List.setIfInBounds_toArray, List.set_cons_zero, List.set_cons_succ])
      refine Draws.take (i := 8) (v := ?_) (by decide +kernel) rfl (by rfl) (fun _ => rfl) (by decide +kernel) (by decide +kernel) (by decide +kernel) (by decide +kernel) (fun _ _ _ h => h) (by assumption) ?_ ?_
      rotate_left
      focus (intro w0 hSw; (try dsimp only at hSw); go_simp; (try (with_reducible rfl)); done)
      (try simp only [Act.put, List.getElem_toArray, List.getElem_cons_zero, List.getElem_cons_succ, List.setIfInBounds_toArray, List.set_cons_zero, List.set_cons_succ])
      refine Draws.take (i := 9) (v := ?_) (by decide +kernel) rfl (by rfl) (fun _ => rfl) (by decide +kernel) (by decide +kernel) (by decide +kernel) (by decide +kernel) (fun _ _ _ h => h) (by assumption) ?_ ?_
      rotate_left
      focus (intro w0 hSw; (try dsimp only at hSw); go_simp; (try (with_reducible rfl)); done)
      (try simp only [Act.put, List.getElem_toArray, List.getElem_cons_zero, List.getElem_cons_succ, List.setIfInBounds_toArray, List.set_cons_zero, List.set_cons_succ])
      refine Draws.take (i := 10) (v := ?_) (by decide +kernel) rfl (by rfl) (fun _ => rfl) (by decide +kernel) (by decide +kernel) (by decide +kernel) (by decide +kernel) (fun _ _ _ h => h) (by assumption) ?_ ?_
      rotate_left
      focus (intro w0 hSw; (try dsimp only at hSw); go_simp; (try (with_reducible rfl)); done)
      (try simp only [Act.put, List.getElem_toArray, List.getElem_cons_zero, List.getElem_cons_succ, List.setIfInBounds_toArray, List.set_cons_zero, List.set_cons_succ])
      refine Draws.take (i := 11) (v := ?_) (by decide +kernel) rfl (by rfl) (fun _ => rfl) (by decide +kernel) (by decide +kernel) (by decide +kernel) (by decide +kernel) (fun _ _ _ h => h) (by assumption) ?_ ?_
      rotate_left
      focus (intro w0 hSw; (try dsimp only at hSw); go_simp; (try (with_reducible rfl)); done)
      (try simp only [Act.put, List.getElem_toArray, List.getElem_cons_zero, List.getElem_cons_succ, List.setIfInBounds_toArray, List.set_cons_zero, List.set_cons_succ])
      refine Draws.one (i := 12) (by decide +kernel) rfl (by rfl) (fun K hKK => ?_)
      go_simp
      refine hR.mono ?_
      rintro e W3 (⟨rfl, hJ3, hk3⟩ | ⟨rfl, hJx3⟩)
      · have hJ4 := hJ3
        rw [← take_next hlt] at hJ4
        refine hKK.out _ _ (fun h => absurd (by decide) h) ?_
        (try simp only [Act.put, List.getElem_toArray, List.getElem_cons_zero, List.getElem_cons_succ, List.setIfInBounds_toArray, List.set_cons_zero, List.set_cons_succ])
        refine Draws.one (i := 13) (by decide +kernel) rfl (by rfl) (fun K hKK => ?_)
        go_simp
        refine hKK.out _ _ (fun h => absurd (by decide) h) ?_
        (try simp only [Act.put, List.getElem_toArray, List.getElem_cons_zero, List.getElem_cons_succ, List.setIfInBounds_toArray, List.set_cons_zero, List.set_cons_succ])
        refine Draws.done (by decide +kernel) ?_ _
        clear hKK
        gi_wp2
        go_roundw
        case rel => exact ⟨k + 1, by omega, by simp, hJ4, hK2.trans hk3⟩
        case measure => simp [intOf]; omega
      · refine hKK.out _ _ (fun h => absurd (by decide) h) ?_
        (try simp only [Act.put, List.getElem_toArray, List.getElem_cons_zero, List.getElem_cons_succ, List.setIfInBounds_toArray, List.set_cons_zero, List.set_cons_succ])
        refine Draws.one (i := 13) (by decide +kernel) rfl (by rfl) (fun K hKK => ?_)
        go_simp
        refine hKK.out _ _ (fun h => absurd (by decide) h) ?_
        (try simp only [Act.put, List.getElem_toArray, List.getElem_cons_zero, List.getElem_cons_succ, List.setIfInBounds_toArray, List.set_cons_zero, List.set_cons_succ])
        refine Draws.done (by decide +kernel) ?_ _
        clear hKK
        gi_wp2
        refine bodyPost_ret (results_none rfl _ _ _) rfl ?_
        exact ⟨⟨_, rfl⟩, .inr ⟨_, hJx3⟩⟩
    · obtain rfl : k = ps.length := by omega
      gi_wp2
      go_end0
      rw [List.take_of_length_le (by simp)] at hJs
      exact ⟨⟨_, rfl⟩, .inl ⟨_, rfl, hJs⟩⟩

set_option maxHeartbeats 1000000 in
/-- The maker: the ring is boxed, the function value holds the box. -/
theorem edges_in (F : Fence) (n : Nat) (hf : F.fn 26) (hro : F.round = none) (A : Option Addr) (len cap : Nat) (w : World) :
    CallsIn F n Try.prog 26 #[.slice A len cap] w fun e w' => e = .returned (.func (.func 48) #[] #[.pointer (some ⟨w.heap.size, 0, none⟩)]) ∧ w' = w.alloc (.cells #[.slice A len cap] 23) := by
  refine callsIn_of_wp Try.func26 rfl hf ?_ hro
  simp only [Try.ntmps26, List.size_toArray, List.length_cons, List.length_nil, Nat.reduceAdd, Nat.reduceSub, Array.replicate_succ, Array.replicate_zero, List.push_toArray, List.append_toArray, List.nil_append, List.cons_append]
  gi_wp2
  go_ret
  exact ⟨rfl, rfl⟩
/-- What it hands back goes through all edges, in their order; or part of them. -/
theorem edges_stops (F : Fence) (n : Nat) (hf : F.fn 48) (hro : F.round = none) (hn : 1 ≤ n) (Bs : Nat) (ps : List (Int × Int)) (A : Option Addr) (cap : Nat) (hlen : ps.length ≤ 128) (w w1 : World)
    (hp : Pts w w.heap.size A ps) (hw : Below w.heap.size w w1) (hb0 : w.heap.size ≤ Bs) (hBs : w1.heap[Bs]? = some (Obj.cells #[.slice A ps.length cap] 23 (0, 0))) :
    SeqStopsK F n Try.prog 48 #[.pointer (some ⟨Bs, 0, none⟩)] (encE ps) (Kept w.heap.size) (fun ys => ys = List.finRange ps.length) (fun _ => True) ps.length w1 := fun l J Jx W hW hJ _ hY h0 =>
  (edges1_in F n hf hro hn l Bs w.heap.size ps A cap hlen J Jx w W hJ hY rfl hp (hw.trans (hW.mono hw.size)) hb0 ((hW.block _ (blk_lt hBs)).trans hBs) h0).mono fun _ _ ⟨h1, h2⟩ => ⟨h1, h2.imp id (fun ⟨pre, h⟩ => ⟨pre, trivial, h⟩)⟩
/-- What is known of the call's own blocks is cells' alone. -/
theorem hold_own {β : Type} {w : World} {B : Nat} (hB : w.heap.size ≤ B) (L : β → List (Nat × Array Value × TypeId)) : OwnFrom B (fun s W => Hold w (L s) W) := fun s X Y row hs hg hr =>
  ⟨hs.1.grown hg hs.1.size (fun k e => Nat.le_trans hB (hr k e).1), fun e he => ⟨(hg.block _ (blk_lt (hs.2.1 e he).1) (fun e' => by
    obtain ⟨-, o, ho, hc⟩ := hr _ e'.symm
    rw [(hs.2.1 e he).1] at ho
    cases ho; cases hc)).trans (hs.2.1 e he).1, (hs.2.1 e he).2⟩, hs.2.2⟩
theorem KeepsFrom.of_below {B : Nat} {W W' : World} (h : Below W.heap.size W W') : KeepsFrom B W W' := ⟨h.size, fun k _ _ hk _ => (h.block k (Array.getElem?_eq_some_iff.1 hk).1).trans hk⟩
end Go.Proofs.Ytkkdjbmdfpmkpaa
