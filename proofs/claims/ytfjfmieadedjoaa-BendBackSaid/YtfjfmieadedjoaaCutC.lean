/- The program's cut: a ring with a corner more; the ring of a path and a border. -/
import Derived.Test.YtfjfmieadedjoaaCutP
import Derived.Test.YtfjfmieadedjoaaPtLib
import Derived.Test.YtfjfmieadedjoaaGeoAns
import Derived.Test.YtfjfmieadedjoaaSide
import Derived.Test.YtfjfmieadedjoaaPlanB
import Derived.Test.YtfjfmieadedjoaaCutM
import Derived.Test.YtfjfmieadedjoaaTurned
namespace Go.Proofs.Ytfjfmieadedjoaa
open Go.RowKit

theorem items_cells {α : Type} {enc : α → List Value} {W : World} {g : Nat} {t : TypeId} {cs : Array Value} {l : List α} (h : W.heap[g]? = some (.cells cs t (0, 0))) (hcs : cs.toList = l.flatMap enc) : Items W W.heap.size (some ⟨g, 0, none⟩) enc l := fun _ =>
 ⟨_, rfl, blk_lt h, fun j u hu => by rw [add_off, blk_cell h, ← hu, ← hcs, Array.getElem?_toList]⟩
theorem flatR_three (x y z : RV) : flatR [x, y, z] = (x.ring ++ y.ring) ++ z.ring := by unfold flatR; simp
theorem Pts.none (w : World) (B : Nat) (A : Option Addr) : Pts w B A [] := fun h => absurd h (by simp)
theorem Pts.dropAll {w : World} {B : Nat} {ad : Addr} {ps : List (Int × Int)} {k : Nat} {A' : Option Addr} (h : Pts w B (some ad) ps) (hA : k < ps.length → A' = some (ad.add (k * 2))) : Pts w B A' (ps.drop k) := by
 by_cases hk : k < ps.length
 ·rw [hA hk]; exact h.drop hk
 ·rw [List.drop_eq_nil_of_le (by omega)]; exact Pts.none _ _ _
theorem putC_first {r : List (Int × Int)} {p : Int × Int} {k : Nat} (hs : Sound r) (hk : k < r.length) (h : Ins (nx r k) (nx r (k + 1)) p) : putC r p = (r.take (k + 1) ++ [p]) ++ r.drop (k + 1) := putC_at hs hk h

end Go.Proofs.Ytfjfmieadedjoaa

namespace Go.Proofs.Ytfjfmieadedjoaa
open Go.RowKit

end Go.Proofs.Ytfjfmieadedjoaa

namespace Go.Proofs.Ytfjfmieadedjoaa
open Go.RowKit

theorem plc_pos {α : Type} [DecidableEq α] {l : List α} {a : α} {n : Int} (h : Plc l a n) (ha : a ∈ l) : n = (posL l a : Nat) := by
 rcases h with ⟨rfl, h⟩ | ⟨i, rfl, h, hk⟩
 ·exact absurd ha h
 ·rw [posL_of h hk]
theorem posL_lt {α : Type} [DecidableEq α] {l : List α} {a : α} (ha : a ∈ l) : posL l a < l.length := by
 have h := (posL_at ha).1
 rcases Nat.lt_or_ge (posL l a) l.length with h1 | h1
 ·exact h1
 ·rw [List.getElem?_eq_none h1] at h; cases h
end Go.Proofs.Ytfjfmieadedjoaa
