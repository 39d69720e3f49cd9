/- How a ring comes in, and that it reads behind the call as it did. -/
import Derived.Test.YtjlnjjmomohpaaaGreatOpen
import Derived.Test.YtjlnjjmomohpaaaGreatItems
import Derived.Deep.SlicePairs
import Derived.ChangeStays
import Derived.SizedLaws
import Derived.ChangeBook
set_option maxRecDepth 100000
namespace Go.Proofs.YtjlnjjmomohpaaaGreat
open Go.Joins Go.ChangeShapes Go.WideShapes Go.ChangeAt Go.RowKit

section
variable {H : Type} {enc : TypeId × Value → H}
theorem again {w w' : World} {sp : Nat → Bool} {t : TypeId} (hr : Tryz.prog.readableRec t = true) (hrow : t < Tryz.prog.types.size) {v : Value} {d : DataW H} {p : List MemPlace}
  (h : DataW.Trod enc Tryz.prog w 0 (fun _ => true) true t v d p) (hb : Below w.heap.size w w') (hlt : ∀ q ∈ p, q.block < w.heap.size) (hs : ∀ q ∈ p, sp q.block = true) : DataW.Trod enc Tryz.prog w' 0 sp true t v d p := by
 obtain ⟨n, hn⟩ := h
 exact ⟨n, DataW.trod_stays (kids_book (by kernel_rfl) hr) (book_sized hr) (fun h => by cases h) ⟨hrow, book_self t⟩ hn (fun q hq => hb.same (hlt q hq)) hs⟩
end
end Go.Proofs.YtjlnjjmomohpaaaGreat
