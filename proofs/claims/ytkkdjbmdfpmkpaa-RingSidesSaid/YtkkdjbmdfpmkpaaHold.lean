/- Blocks of the call's own, whatever they hold: which cells stand in them, and that calls which make memory leave them. -/
import Derived.Test.YtkkdjbmdfpmkpaaSums
namespace Go.Proofs.Ytkkdjbmdfpmkpaa
open Go.RowKit

/-- Nothing below w has turned, and each listed block, the newest first, holds its cells. -/
def Hold (w : World) (L : List (Nat × Array Value × TypeId)) (W : World) : Prop :=
  Below w.heap.size w W ∧ (∀ e ∈ L, W.heap[e.1]? = some (.cells e.2.1 e.2.2 (0, 0)) ∧ w.heap.size ≤ e.1) ∧ L.Pairwise (fun a b => b.1 < a.1)
section
variable {w W W' : World} {L L' : List (Nat × Array Value × TypeId)}
theorem Hold.refl (w : World) : Hold w [] w := ⟨Below.refl _ w, (fun _ h => by cases h), List.Pairwise.nil⟩
theorem Hold.on (h : Hold w L W) (hb : Below W.heap.size W W') : Hold w L W' := ⟨h.1.trans (hb.mono h.1.size), (fun e he => ⟨(hb.block _ (blk_lt (h.2.1 e he).1)).trans (h.2.1 e he).1, (h.2.1 e he).2⟩), h.2.2⟩
theorem Hold.drew (h : Hold w L W) : Hold w L W.drew := ⟨h.1.drew, h.2⟩
theorem Hold.drewN (h : Hold w L W) (n : Nat) : Hold w L (W.drewN n) := ⟨⟨h.1.os, h.1.tape, h.1.output, h.1.size, h.1.block⟩, h.2⟩
theorem Hold.alloc (h : Hold w L W) (o : Obj) : Hold w L (W.alloc o) := ⟨h.1.alloc h.1.size _, (fun e he => ⟨blk_alloc (h.2.1 e he).1 o, (h.2.1 e he).2⟩), h.2.2⟩
theorem Hold.new (h : Hold w L W) (cs : Array Value) (t : TypeId) : Hold w ((W.heap.size, cs, t) :: L) (W.alloc (Obj.cells cs t (0, 0))) :=
  ⟨(h.alloc _).1, (fun e he => by
    rcases List.mem_cons.1 he with rfl | he
    · exact ⟨heap_alloc_new _ _, h.1.size⟩
    · exact (h.alloc _).2.1 e he), List.Pairwise.cons (fun e he => blk_lt (h.2.1 e he).1) h.2.2⟩
theorem Hold.new' (h : Hold w L W) (cs : Array Value) (t : TypeId) {n : Nat} (hn : n = W.heap.size) : Hold w ((n, cs, t) :: L) (W.alloc (Obj.cells cs t (0, 0))) := by
  subst hn; exact h.new cs t
theorem Hold.sub (h : Hold w L W) (hs : L'.Sublist L) : Hold w L' W := ⟨h.1, (fun e he => h.2.1 e (hs.subset he)), h.2.2.sublist hs⟩
theorem Hold.tail {e : Nat × Array Value × TypeId} (h : Hold w (e :: L) W) : Hold w L W := h.sub (List.sublist_cons_self e L)
theorem Hold.bare (h : Hold w L W) : Hold w [] W := h.sub (List.nil_sublist L)
section
variable {g : Nat} {cs : Array Value} {t : TypeId}
theorem Hold.cell (h : Hold w L W) (hm : (g, cs, t) ∈ L) (i : Nat) : W.cell? ⟨g, i, none⟩ = cs[i]? := blk_cell (h.2.1 _ hm).1 i
theorem Hold.frozen (h : Hold w L W) (hm : (g, cs, t) ∈ L) (i : Nat) : W.frozen? ⟨g, i, none⟩ = false := blk_frozen (h.2.1 _ hm).1 i
theorem Hold.lt (h : Hold w L W) (hm : (g, cs, t) ∈ L) : g < W.heap.size := blk_lt (h.2.1 _ hm).1
/-- A store into the newest block. -/
theorem Hold.set (h : Hold w ((g, cs, t) :: L) W) (i : Nat) (x : Value) : Hold w ((g, cs.setIfInBounds i x, t) :: L) (W.setCell ⟨g, i, none⟩ x) := by
  have hg := h.2.1 _ List.mem_cons_self
  refine ⟨h.1.setCell hg.2 _, fun e he => ?_, ?_⟩
  · rcases List.mem_cons.1 he with rfl | he
    · refine ⟨?_, hg.2⟩
      simp [World.setCell, Array.getElem?_modify, hg.1]
    · have hlt := (List.pairwise_cons.1 h.2.2).1 e he
      have := h.2.1 e (List.mem_cons_of_mem _ he)
      exact ⟨(Below.heap_setCell _ _ _ e.1 (Nat.ne_of_lt hlt)).trans this.1, this.2⟩
  · exact List.Pairwise.cons (List.pairwise_cons.1 h.2.2).1 (List.pairwise_cons.1 h.2.2).2
theorem Hold.set2 {a b : Value} (h : Hold w ((g, #[a, b], t) :: L) W) (x y : Value) : Hold w ((g, #[x, y], t) :: L) ((W.setCell ⟨g, 0, none⟩ x).setCell ⟨g, 1, none⟩ y) := (h.set 0 x).set 1 y
/-- A store into the block behind the newest. -/
theorem Hold.swap {e : Nat × Array Value × TypeId} (h : Hold w (e :: (g, cs, t) :: L) W) (i : Nat) (x : Value) : Hold w (e :: (g, cs.setIfInBounds i x, t) :: L) (W.setCell ⟨g, i, none⟩ x) := by
  have hs := h.tail.set i x
  have hp := List.pairwise_cons.1 h.2.2
  have hne : e.1 ≠ g := (Nat.ne_of_lt (hp.1 _ List.mem_cons_self)).symm
  refine ⟨hs.1, fun e' he => ?_, List.Pairwise.cons (fun e' he => ?_) hs.2.2⟩
  · rcases List.mem_cons.1 he with rfl | he
    · have := h.2.1 e' List.mem_cons_self
      exact ⟨(Below.heap_setCell _ _ _ e'.1 hne).trans this.1, this.2⟩
    · exact hs.2.1 e' he
  · rcases List.mem_cons.1 he with rfl | he
    · exact hp.1 (g, cs, t) List.mem_cons_self
    · exact hp.1 e' (List.mem_cons_of_mem _ he)
theorem Hold.swap2 {e : Nat × Array Value × TypeId} {a b : Value} (h : Hold w (e :: (g, #[a, b], t) :: L) W) (x y : Value) : Hold w (e :: (g, #[x, y], t) :: L) ((W.setCell ⟨g, 0, none⟩ x).setCell ⟨g, 1, none⟩ y) := (h.swap 0 x).swap 1 y
/-- A pair of cells: what a walk reads and asks of it. -/
theorem Hold.pt (h : Hold w L W) {x y : Value} (hm : (g, #[x, y], t) ∈ L) : W.cell? ⟨g, 0, none⟩ = some x ∧ W.cell? ⟨g, 1, none⟩ = some y :=
  ⟨h.cell hm 0, h.cell hm 1⟩
theorem Hold.fz (h : Hold w L W) {x y : Value} (hm : (g, #[x, y], t) ∈ L) : W.frozen? ⟨g, 0, none⟩ = false ∧ W.frozen? ⟨g, 1, none⟩ = false :=
  ⟨h.frozen hm 0, h.frozen hm 1⟩
theorem Hold.top {x y : Value} (h : Hold w ((g, #[x, y], t) :: L) W) : W.cell? ⟨g, 0, none⟩ = some x ∧ W.cell? ⟨g, 1, none⟩ = some y ∧ W.frozen? ⟨g, 0, none⟩ = false ∧ W.frozen? ⟨g, 1, none⟩ = false :=
  ⟨h.cell List.mem_cons_self 0, h.cell List.mem_cons_self 1, h.frozen List.mem_cons_self 0, h.frozen List.mem_cons_self 1⟩
end
end
end Go.Proofs.Ytkkdjbmdfpmkpaa
