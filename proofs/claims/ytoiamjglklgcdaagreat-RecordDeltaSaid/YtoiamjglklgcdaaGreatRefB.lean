/- The contracts of the document's own answers on five parts of 32 bits: limbs, plus, minus, whole. -/
import Derived.Test.YtoiamjglklgcdaaGreatWords
import Derived.Test.YtoiamjglklgcdaaGreatPlane
import Derived.BigQuiet
import Derived.BigRegion
import Derived.Test.YtoiamjglklgcdaaGreatHold
import Derived.Deep.DeepCutAuto
namespace Go.Proofs.YtoiamjglklgcdaaGreat
open Go.RowKit

end Go.Proofs.YtoiamjglklgcdaaGreat

namespace Go.Proofs.YtoiamjglklgcdaaGreat
open Go.RowKit

def Own (w : World) (L : List (Nat × Int × Int)) (W : World) : Prop := Has w L W ∧ L.Pairwise (fun a b => b.1 < a.1) ∧ ∀ e ∈ L, w.heap.size ≤ e.1
section
variable {w W W' : World} {L : List (Nat × Int × Int)}
theorem Own.refl (w : World) : Own w [] w := ⟨Has.refl w, List.Pairwise.nil, fun _ h => by cases h⟩
theorem Own.on (h : Own w L W) (hb : Below W.heap.size W W') : Own w L W' := ⟨h.1.on hb, h.2⟩
theorem Own.drew (h : Own w L W) : Own w L W.drew := ⟨h.1.drew, h.2⟩
theorem Own.drewN (h : Own w L W) (n : Nat) : Own w L (W.drewN n) := ⟨h.1.drewN n, h.2⟩
theorem Own.new (h : Own w L W) (a b : Int) : Own w ((W.heap.size, a, b) :: L) (W.alloc (Obj.cells #[.int .i64 a, .int .u64 b] 67)) :=
 ⟨h.1.new a b, List.Pairwise.cons (fun e he => blk_lt (h.1.2 e he)) h.2.1, fun e he => by
  rcases List.mem_cons.1 he with rfl | he
  ·exact h.1.1.size
  ·exact h.2.2 e he⟩
theorem Own.new' (h : Own w L W) (a b : Int) {n : Nat} (hn : n = W.heap.size) : Own w ((n, a, b) :: L) (W.alloc (Obj.cells #[.int .i64 a, .int .u64 b] 67)) := by
 subst hn; exact h.new a b
theorem Own.store {g : Nat} {a b : Int} (h : Own w ((g, a, b) :: L) W) (x y : Int) : Own w ((g, x, y) :: L) ((W.setCell ⟨g, 0, none⟩ (.int .i64 x)).setCell ⟨g, 1, none⟩ (.int .u64 y)) := by
 obtain ⟨⟨hb, hL⟩, hp, hw⟩ := h
 have hg := hw _ (List.mem_cons_self ..)
 refine ⟨⟨(hb.setCell hg _).setCell hg _, fun e he => ?_⟩, List.Pairwise.cons (fun e he => List.rel_of_pairwise_cons hp he) hp.of_cons, fun e he => ?_⟩
 ·rcases List.mem_cons.1 he with rfl | he
  ·exact set_pair (hL _ (List.mem_cons_self ..)) _ _
  ·have hlt : e.1 < g := List.rel_of_pairwise_cons hp he
   exact (set_far (by omega) _ _).trans (hL _ (List.mem_cons_of_mem _ he))
 ·rcases List.mem_cons.1 he with rfl | he
  ·exact hg
  ·exact hw _ (List.mem_cons_of_mem _ he)
theorem Own.two {g g' : Nat} {a b a' b' : Int} (h : Own w L W) (m : (g, a, b) ∈ L) (m' : (g', a', b') ∈ L) : W.cell? ⟨g, 0, none⟩ = some (.int .i64 a) ∧ W.cell? ⟨g, 1, none⟩ = some (.int .u64 b) ∧ W.cell? ⟨g', 0, none⟩ = some (.int .i64 a') ∧ W.cell? ⟨g', 1, none⟩ = some (.int .u64 b') :=
 ⟨(h.1.look m).1, (h.1.look m).2, (h.1.look m').1, (h.1.look m').2⟩
theorem Own.head {g : Nat} {a b : Int} (h : Own w ((g, a, b) :: L) W) : W.cell? ⟨g, 0, none⟩ = some (.int .i64 a) ∧ W.cell? ⟨g, 1, none⟩ = some (.int .u64 b) ∧ W.frozen? ⟨g, 0, none⟩ = false ∧ W.frozen? ⟨g, 1, none⟩ = false :=
 (pair_facts (h.1.2 _ (List.mem_cons_self ..))).1
theorem Own.fz {g : Nat} {a b : Int} (h : Own w L W) (m : (g, a, b) ∈ L) : W.frozen? ⟨g, 0, none⟩ = false ∧ W.frozen? ⟨g, 1, none⟩ = false :=
 ⟨(pair_facts (h.1.2 _ m)).1.2.2.1, (pair_facts (h.1.2 _ m)).1.2.2.2⟩
end

end Go.Proofs.YtoiamjglklgcdaaGreat
