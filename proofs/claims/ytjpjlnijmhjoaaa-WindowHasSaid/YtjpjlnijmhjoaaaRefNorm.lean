/- The contracts of the document's own answers Less, Least and Same. -/
import Derived.Test.YtjpjlnijmhjoaaaOwn
import Derived.Test.YtjpjlnijmhjoaaaRefCheck
namespace Go.Proofs.Ytjpjlnijmhjoaaa
open Go.RowKit

/-- By X, then by Y. -/
def lessB (a b : Int × Int) : Bool := decide (a.1 < b.1) || (decide (a.1 = b.1) && decide (a.2 < b.2))
theorem take_same {ps qs : List (Int × Int)} {k : Nat} (h1 : k < ps.length) (h2 : k < qs.length) (h : ps.take k = qs.take k) : ps.take (k + 1) = qs.take (k + 1) ↔ ps[k] = qs[k] := by
  rw [List.take_succ_eq_append_getElem h1, List.take_succ_eq_append_getElem h2, h]
  constructor
  · intro e; exact List.head_eq_of_cons_eq (List.append_cancel_left e)
  · intro e; rw [e]
theorem same_end {ps qs : List (Int × Int)} {k : Nat} (hk : ¬ k < ps.length ∨ ¬ k < qs.length) (h1 : k ≤ ps.length) (h2 : k ≤ qs.length) (h : ps.take k = qs.take k) : decide (ps = qs) = ((ps.length : Int) == (qs.length : Int)) := by
  rw [Bool.eq_iff_iff, decide_eq_true_iff, beq_iff_eq]
  constructor
  · rintro rfl; rfl
  · intro e
    have e1 : k = ps.length := by omega
    have e2 : k = qs.length := by omega
    rw [e1, List.take_length, ← e1, e2, List.take_length] at h
    exact h

/-- The place of the least corner so far. -/
def leastI (ps : List (Int × Int)) : Nat → Nat
  | 0 => 0
  | i + 1 => if lessB (nx ps i) (nx ps (leastI ps i)) then i else leastI ps i
theorem leastI_le (ps : List (Int × Int)) : ∀ i, leastI ps i ≤ i
  | 0 => Nat.le_refl _
  | i + 1 => by
    have := leastI_le ps i
    rw [leastI]
    split <;> omega
/-- A ring, begun elsewhere. -/
def rotL (ps : List (Int × Int)) (k : Nat) : List (Int × Int) := (List.range ps.length).map fun i => nx ps (k + i)
theorem rotL_length (ps : List (Int × Int)) (k : Nat) : (rotL ps k).length = ps.length := by unfold rotL; simp
theorem rotL_get (ps : List (Int × Int)) (k i : Nat) (hi : i < ps.length) : (rotL ps k)[i]? = some (nx ps (k + i)) := by
  unfold rotL; rw [List.getElem?_map, List.getElem?_range hi]; rfl
theorem rotL_take {ps : List (Int × Int)} {k i : Nat} (hi : i < ps.length) : (rotL ps k).take (i + 1) = (rotL ps k).take i ++ [nx ps (k + i)] := by
  rw [List.take_add_one, rotL_get ps k i hi]
  rfl
theorem nx_rotL (ps : List (Int × Int)) (k i : Nat) (h : 0 < ps.length) : nx (rotL ps k) i = nx ps (i + k) := by
  have hi := Nat.mod_lt i h
  have e : nx (rotL ps k) i = nx (rotL ps k) (i % ps.length) := by rw [← rotL_length ps k, nx_mod]
  rw [e]
  unfold nx
  rw [rotL_length, Nat.mod_mod, List.getD_eq_getElem?_getD, rotL_get ps k _ hi, Option.getD_some]
  unfold nx
  rw [Nat.add_comm k, Nat.mod_add_mod]
theorem any_place {x n : Nat} (hn : 0 < n) (y z : Nat) (hx : x = y + z) : ∃ j : Nat, j < n ∧ x % n = j ∧ ((y : Int) + (z : Int)) % (n : Int) = (j : Int) ∧ ((y : Int) + (z : Int)).tmod (n : Int) = (j : Int) := by
  subst hx
  refine ⟨(y + z) % n, Nat.mod_lt _ hn, rfl, ?_, ?_⟩
  · rw [Int.natCast_emod]; rfl
  · rw [Int.tmod_eq_emod_of_nonneg (by omega), Int.natCast_emod]; rfl
section
variable {w W : World} {L : List (Nat × Array Value × TypeId)} {q0 q1 : Addr} {a b : Int × Int}
theorem Hold.fp2 (h : Hold w L W) (f0 : FP w q0 a) (f1 : FP w q1 b) : W.cell? q0 = some (.int .i64 a.1) ∧ W.cell? ⟨q0.block, q0.off + 1, none⟩ = some (.int .i64 a.2) ∧ W.cell? q1 = some (.int .i64 b.1) ∧ W.cell? ⟨q1.block, q1.off + 1, none⟩ = some (.int .i64 b.2) :=
  ⟨(h.fp f0).1, (h.fp f0).2, (h.fp f1).1, (h.fp f1).2⟩
end

end Go.Proofs.Ytjpjlnijmhjoaaa
