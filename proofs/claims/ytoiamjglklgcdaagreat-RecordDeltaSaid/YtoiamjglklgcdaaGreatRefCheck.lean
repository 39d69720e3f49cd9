/- The contracts of the document's own answers: the sign, and which of two is greater. -/
import Derived.Test.YtoiamjglklgcdaaGreatRefB
import Derived.Test.YtoiamjglklgcdaaGreatRefSide
import Derived.Test.YtoiamjglklgcdaaGreatRefMeet
import Derived.BigQuiet
namespace Go.Proofs.YtoiamjglklgcdaaGreat
open Go.RowKit

end Go.Proofs.YtoiamjglklgcdaaGreat

namespace Go.Proofs.YtoiamjglklgcdaaGreat
open Go.RowKit

open Classical in
noncomputable def chE (ps : List (Int × Int)) : Int := if arE ps ≠ 0 then arE ps else if Sound ps then 0 else 4
theorem chE_bad {ps : List (Int × Int)} (h : arE ps ≠ 0) : chE ps = arE ps := by unfold chE; rw [if_pos h]
theorem chE_sound {ps : List (Int × Int)} (h : arE ps = 0) (hs : Sound ps) : chE ps = 0 := by unfold chE; rw [if_neg (by omega), if_pos hs]
theorem chE_unsound {ps : List (Int × Int)} (h : arE ps = 0) (hs : ¬ Sound ps) : chE ps = 4 := by unfold chE; rw [if_neg (by omega), if_neg hs]
def nxB (n i j : Nat) : Bool := decide (j = i + 1 ∨ (i = 0 ∧ j + 1 = n))
theorem apart_test {ps : List (Int × Int)} {i j : Nat} (hn : 3 ≤ ps.length) (hij : i < j) (hj : j < ps.length) : Apart ps i j ↔ nx ps i ≠ nx ps j ∧ meetN (nx ps i) (nx ps (i + 1)) (nx ps j) (nx ps (j + 1)) = if nxB ps.length i j then 1 else 0 := by
 unfold Apart nxB
 rw [adj_lt hn hij hj, meetN_eq]
 constructor
 ·rintro ⟨h1, h2, h3⟩
  refine ⟨h1, ?_⟩
  by_cases h : j = i + 1 ∨ (i = 0 ∧ j + 1 = ps.length)
  ·rw [decide_eq_true h, if_pos rfl]; exact h2 (by omega)
  ·rw [decide_eq_false h, if_neg (by decide)]; exact h3 (by omega)
 ·rintro ⟨h1, h2⟩
  refine ⟨h1, fun h => ?_, fun h => ?_⟩
  ·rw [decide_eq_true (by omega), if_pos rfl] at h2; exact h2
  ·rw [decide_eq_false (by omega), if_neg (by decide)] at h2; exact h2

def FP (w : World) (q : Addr) (a : Int × Int) : Prop := q.block < w.heap.size ∧ w.cell? q = some (.int .i64 a.1) ∧ w.cell? ⟨q.block, q.off + 1, none⟩ = some (.int .i64 a.2)
section
variable {w W : World} {L : List (Nat × Array Value × TypeId)} {q0 q1 q2 q3 : Addr} {a b c d : Int × Int}
theorem Hold.fp (h : Hold w L W) (f : FP w q0 a) : W.cell? q0 = some (.int .i64 a.1) ∧ W.cell? ⟨q0.block, q0.off + 1, none⟩ = some (.int .i64 a.2) :=
 ⟨h.far f.1 f.2.1, h.far (q := ⟨q0.block, q0.off + 1, none⟩) f.1 f.2.2⟩
end
theorem Pts.fp {w : World} {A : Option Addr} {ps : List (Int × Int)} (h : Pts w w.heap.size A ps) {k i : Nat} (hk : k < ps.length) (hi : i % ps.length = k) : ∃ ad, A = some ad ∧ FP w (ad.add (k * 2)) (Go.Proofs.YtoiamjglklgcdaaGreat.nx ps i) := by
 obtain ⟨ad, e, hb, c0, c1⟩ := h.nx (Below.refl _ w) hk hi
 exact ⟨ad, e, by rw [block_of_add]; exact hb, c0, c1⟩

end Go.Proofs.YtoiamjglklgcdaaGreat
