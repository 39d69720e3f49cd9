/- Both parts of a parcel are together what it was; the two ways round between two corners. -/
import Derived.Test.YtfjfmieadedjoaaCutL
namespace Go.Proofs.Ytfjfmieadedjoaa
open Go.RowKit

theorem posL_app {α : Type} [DecidableEq α] : ∀ {l1 : List α} {a : α} (_ : a ∉ l1) (l2 : List α), posL (l1 ++ a :: l2) a = l1.length
 |[], a, _, l2 => by simp [posL]
 |x :: l1, a, h, l2 => by
  have hx : ¬ x = a := fun e => h (by rw [e]; exact List.mem_cons_self)
  rw [List.cons_append, posL, if_neg hx, posL_app (fun hh => h (List.mem_cons_of_mem _ hh)) l2, List.length_cons]
theorem posL_split {α : Type} [DecidableEq α] : ∀ {l : List α} {a : α}, a ∈ l → ∃ l1 l2, l = l1 ++ a :: l2 ∧ a ∉ l1
 |[], a, h => by cases h
 |x :: l, a, h => by
  by_cases e : x = a
  ·exact ⟨[], l, by rw [e]; rfl, by simp⟩
  ·obtain ⟨l1, l2, h1, h2⟩ := posL_split (l := l) (a := a) (by rcases List.mem_cons.1 h with h | h; exact absurd h.symm e; exact h)
   refine ⟨x :: l1, l2, by rw [h1]; rfl, fun hh => ?_⟩
   rcases List.mem_cons.1 hh with hh | hh
   ·exact e hh.symm
   ·exact h2 hh
section
variable {o : List (Int × Int)} {ps : List Par} {id : Int} {path : List (Int × Int)} {fresh : Int}
end
end Go.Proofs.Ytfjfmieadedjoaa

namespace Go.Proofs.Ytfjfmieadedjoaa
open Go.RowKit

theorem nx_mark {r : List (Int × Int)} {k : Nat} (hk : k < r.length) (p : Int × Int) : (∀ m, m ≤ k → nx (mark r k p) m = nx r m) ∧ nx (mark r k p) (k + 1) = p ∧ ∀ m, k < m → m ≤ r.length → nx (mark r k p) (m + 1) = nx r m := by
 have hl := mark_length hk p
 have ht : (r.take (k + 1)).length = k + 1 := by rw [List.length_take]; omega
 refine ⟨fun m hm => ?_, ?_, fun m h1 h2 => ?_⟩
 ·rw [nx_lt (by omega), nx_lt (by omega)]
  unfold mark
  rw [List.getElem_append_left (by rw [List.length_append, ht]; simp; omega), List.getElem_append_left (by rw [ht]; omega), List.getElem_take]
 ·rw [nx_lt (by omega)]
  unfold mark
  rw [List.getElem_append_left (by rw [List.length_append, ht]; simp), List.getElem_append_right (by rw [ht]; omega)]
  simp [ht]
 ·by_cases e : m = r.length
  ·subst e
   have e1 := nx_per (mark r k p) 0
   have e2 := nx_per r 0
   rw [Nat.zero_add] at e1 e2
   rw [hl] at e1
   rw [e1, e2, nx_mark0 hk]
  ·rw [nx_lt (by omega), nx_lt (by omega)]
   unfold mark
   rw [List.getElem_append_right (by rw [List.length_append, ht]; simp; omega), List.getElem_drop]
   congr 1
   rw [List.length_append, ht]
   simp
   omega
section
variable {o : List (Int × Int)} {ps : List Par} {id : Int} {path : List (Int × Int)} {fresh : Int}
end
end Go.Proofs.Ytfjfmieadedjoaa
