/- A world in which nothing below the call's own blocks has turned, and in which some of the call's own blocks hold known pairs of words. -/
import Derived.Test.YtkkdjbmdfpmkpaaSums
namespace Go.Proofs.Ytkkdjbmdfpmkpaa
open Go.RowKit

def Has (w : World) (L : List (Nat × Int × Int)) (W : World) : Prop :=
  Below w.heap.size w W ∧ ∀ e ∈ L, W.heap[e.1]? = some (.cells #[.int .i64 e.2.1, .int .u64 e.2.2] 26 (0, 0))
section
variable {w W W' : World} {L : List (Nat × Int × Int)}
theorem Has.refl (w : World) : Has w [] w := ⟨Below.refl _ _, fun _ h => by cases h⟩
theorem Has.on (h : Has w L W) (hb : Below W.heap.size W W') : Has w L W' := ⟨h.1.trans (hb.mono h.1.size), fun e he => (hb.block _ (blk_lt (h.2 e he))).trans (h.2 e he)⟩
theorem Has.drew (h : Has w L W) : Has w L W.drew := ⟨h.1.drew, h.2⟩
theorem Has.drewN (h : Has w L W) (n : Nat) : Has w L (W.drewN n) := ⟨⟨h.1.os, h.1.tape, h.1.output, h.1.size, h.1.block⟩, h.2⟩
theorem Has.alloc (h : Has w L W) (o : Obj) : Has w L (W.alloc o) := ⟨h.1.alloc h.1.size _, fun e he => blk_alloc (h.2 e he) o⟩
theorem Has.new (h : Has w L W) (a b : Int) : Has w ((W.heap.size, a, b) :: L) (W.alloc (Obj.cells #[.int .i64 a, .int .u64 b] 26)) :=
  ⟨h.1.alloc h.1.size _, fun e he => by
    rcases List.mem_cons.1 he with rfl | he
    · exact heap_alloc_new _ _
    · exact blk_alloc (h.2 e he) _⟩
theorem Has.new' (h : Has w L W) (a b : Int) {n : Nat} (hn : n = W.heap.size) : Has w ((n, a, b) :: L) (W.alloc (Obj.cells #[.int .i64 a, .int .u64 b] 26)) := by
  subst hn; exact h.new a b
theorem Has.sub {L' : List (Nat × Int × Int)} (h : Has w L W) (hs : ∀ e ∈ L', e ∈ L) : Has w L' W := ⟨h.1, fun e he => h.2 e (hs e he)⟩
/-- What a load of one of the blocks reads. -/
theorem Has.look (h : Has w L W) {g : Nat} {a b : Int} (hm : (g, a, b) ∈ L) : W.cell? ⟨g, 0, none⟩ = some (.int .i64 a) ∧ W.cell? ⟨g, 1, none⟩ = some (.int .u64 b) :=
  ⟨blk_cell (h.2 _ hm) 0, blk_cell (h.2 _ hm) 1⟩
theorem Has.cells1 {g : Nat} {a b : Int} (h : Has w ((g, a, b) :: L) W) : W.cell? ⟨g, 0, none⟩ = some (.int .i64 a) ∧ W.cell? ⟨g, 1, none⟩ = some (.int .u64 b) := h.look (by simp)
theorem Has.cells2 {g g' : Nat} {a b a' b' : Int} (h : Has w ((g, a, b) :: (g', a', b') :: L) W) : W.cell? ⟨g, 0, none⟩ = some (.int .i64 a) ∧ W.cell? ⟨g, 1, none⟩ = some (.int .u64 b) ∧ W.cell? ⟨g', 0, none⟩ = some (.int .i64 a') ∧ W.cell? ⟨g', 1, none⟩ = some (.int .u64 b') :=
  ⟨h.cells1.1, h.cells1.2, h.sub (L' := (g', a', b') :: L) (fun _ he => List.mem_cons_of_mem _ he) |>.cells1⟩
theorem Has.cells3 {g g' g'' : Nat} {a b a' b' a'' b'' : Int} (h : Has w ((g, a, b) :: (g', a', b') :: (g'', a'', b'') :: L) W) : W.cell? ⟨g, 0, none⟩ = some (.int .i64 a) ∧ W.cell? ⟨g, 1, none⟩ = some (.int .u64 b) ∧ W.cell? ⟨g', 0, none⟩ = some (.int .i64 a') ∧ W.cell? ⟨g', 1, none⟩ = some (.int .u64 b') ∧ W.cell? ⟨g'', 0, none⟩ = some (.int .i64 a'') ∧ W.cell? ⟨g'', 1, none⟩ = some (.int .u64 b'') :=
  ⟨h.cells1.1, h.cells1.2, h.sub (L' := (g', a', b') :: (g'', a'', b'') :: L) (fun _ he => List.mem_cons_of_mem _ he) |>.cells2⟩
theorem Has.cells4 {g g' g'' g3 : Nat} {a b a' b' a'' b'' a3 b3 : Int} (h : Has w ((g, a, b) :: (g', a', b') :: (g'', a'', b'') :: (g3, a3, b3) :: L) W) : W.cell? ⟨g, 0, none⟩ = some (.int .i64 a) ∧ W.cell? ⟨g, 1, none⟩ = some (.int .u64 b) ∧ W.cell? ⟨g', 0, none⟩ = some (.int .i64 a') ∧ W.cell? ⟨g', 1, none⟩ = some (.int .u64 b') ∧ W.cell? ⟨g'', 0, none⟩ = some (.int .i64 a'') ∧ W.cell? ⟨g'', 1, none⟩ = some (.int .u64 b'') ∧ W.cell? ⟨g3, 0, none⟩ = some (.int .i64 a3) ∧ W.cell? ⟨g3, 1, none⟩ = some (.int .u64 b3) :=
  ⟨h.cells1.1, h.cells1.2, h.sub (L' := (g', a', b') :: (g'', a'', b'') :: (g3, a3, b3) :: L) (fun _ he => List.mem_cons_of_mem _ he) |>.cells3⟩
end
end Go.Proofs.Ytkkdjbmdfpmkpaa
