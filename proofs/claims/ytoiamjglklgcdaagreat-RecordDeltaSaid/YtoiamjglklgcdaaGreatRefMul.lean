/- The contracts of the document's own answers: a number in two words, and the product, bit by bit. -/
import Derived.Test.YtoiamjglklgcdaaGreatRefB
import Derived.Deep.DeepCutAuto
import Derived.Deep.LoopGhost
namespace Go.Proofs.YtoiamjglklgcdaaGreat
open Go.RowKit

structure Mill (w : World) (g4 g5 g6 : Nat) (x s : Int) (W : World) : Prop where
 r : W.heap[g4]? = some (.cells #[.int .i64 0, .int .u64 0] 67 (0, 0))
 x : W.heap[g5]? = some (.cells #[.int .u32 (lim0 x), .int .u32 (lim1 x), .int .u32 (lim2 x), .int .u32 (lim3 x), .int .u32 (lim4 x)] 133 (0, 0))
 s : W.heap[g6]? = some (.cells #[.int .u32 (lim0 s), .int .u32 (lim1 s), .int .u32 (lim2 s), .int .u32 (lim3 s), .int .u32 (lim4 s)] 133 (0, 0))
 below : Below w.heap.size w W
 l4 : w.heap.size ≤ g4
 l5 : g4 < g5
 l6 : g5 < g6
section
variable {w W W' : World} {g4 g5 g6 : Nat} {x s : Int}
theorem Mill.on (h : Mill w g4 g5 g6 x s W) (hb : Below W.heap.size W W') : Mill w g4 g5 g6 x s W' :=
 ⟨(hb.block _ (blk_lt h.r)).trans h.r, (hb.block _ (blk_lt h.x)).trans h.x, (hb.block _ (blk_lt h.s)).trans h.s, h.below.trans (hb.mono h.below.size), h.l4, h.l5, h.l6⟩
end

end Go.Proofs.YtoiamjglklgcdaaGreat
