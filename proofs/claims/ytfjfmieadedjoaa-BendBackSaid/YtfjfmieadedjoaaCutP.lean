/- Which parcels of two plans are other ones: plainly. -/
import Derived.Test.YtfjfmieadedjoaaRefPar
import Derived.Test.YtfjfmieadedjoaaRefSide
import Derived.Test.YtfjfmieadedjoaaRefFine
import Derived.Test.YtfjfmieadedjoaaRingP
namespace Go.Proofs.Ytfjfmieadedjoaa

def firstQ (ps : List Par) (id : Int) : Option Par := ps.find? fun x => x.id == id
def idsQ (ps : List Par) : List Int := ps.map Par.id
def ChP (ps qs : List Par) (id : Int) : Prop := (id ∈ idsQ ps ∨ id ∈ idsQ qs) ∧ ¬ ∃ a, firstQ ps id = some a ∧ firstQ qs id = some a
theorem ChP.swap {ps qs : List Par} {id : Int} (h : ChP ps qs id) : ChP qs ps id := ⟨h.1.symm, fun ⟨a, h1, h2⟩ => h.2 ⟨a, h2, h1⟩⟩
end Go.Proofs.Ytfjfmieadedjoaa

namespace Go.Proofs.Ytfjfmieadedjoaa

end Go.Proofs.Ytfjfmieadedjoaa

namespace Go.Proofs.Ytfjfmieadedjoaa
open Go.RowKit

end Go.Proofs.Ytfjfmieadedjoaa

namespace Go.Proofs.Ytfjfmieadedjoaa
open Go.RowKit

theorem mark_length {ps : List (Int × Int)} {k : Nat} (hk : k < ps.length) (p : Int × Int) : (mark ps k p).length = ps.length + 1 := by
 unfold mark
 rw [List.length_append, List.length_append, List.length_take, List.length_drop]
 simp only [List.length_cons, List.length_nil]
 omega
theorem mem_mark {ps : List (Int × Int)} {k : Nat} {p q : Int × Int} : q ∈ mark ps k p ↔ q ∈ ps ∨ q = p := by
 unfold mark
 conv => rhs; rw [← List.take_append_drop (k + 1) ps]
 simp only [List.mem_append, List.mem_cons, List.not_mem_nil, or_false]
 constructor
 ·rintro ((h | h) | h)
  ·exact .inl (.inl h)
  ·exact .inr h
  ·exact .inl (.inr h)
 ·rintro ((h | h) | h)
  ·exact .inl (.inl h)
  ·exact .inr h
  ·exact .inl (.inr h)
theorem mark_sound {ps : List (Int × Int)} {k : Nat} {p : Int × Int} (hs : Sound ps) (hk : k < ps.length) (hi : Ins (nx ps k) (nx ps (k + 1)) p) : area (mark ps k p) = area ps ∧ Sound (mark ps k p) ∧ ∀ q, side (mark ps k p) q = side ps q := by
 obtain ⟨hon, ha, hb⟩ := hi
 have hrot : ∃ r', r' = ps.drop (k + 1) ++ ps.take (k + 1) ∧ r'.length = ps.length ∧ (∀ i, nx r' i = nx ps (i + (k + 1))) := by
  refine ⟨_, rfl, by rw [List.length_append, List.length_drop, List.length_take]; omega, fun i => ?_⟩
  by_cases e : k + 1 < ps.length
  ·exact nx_dt e i
  ·have e1 : k + 1 = ps.length := by omega
   rw [e1, List.drop_length, List.take_length, List.nil_append, nx_per]
 obtain ⟨r', hr', hlr, hnr⟩ := hrot
 obtain ⟨a1, a2, a3⟩ := begins (k + 1) hlr hnr
 have hlast : nx r' (r'.length - 1) = nx ps k := by
  rw [hnr, hlr, show ps.length - 1 + (k + 1) = k + ps.length by omega, nx_per]
 have hfirst : nx r' 0 = nx ps (k + 1) := by rw [hnr, Nat.zero_add]
 have hls : (r' ++ [p]).length = r'.length + 1 := by simp
 obtain ⟨b1, b2, b3⟩ := marks (r := r') (s := r' ++ [p]) (p := p) (a2.2 hs) hls
  (fun i hi => by rw [nx_lt (by rw [hls]; omega), List.getElem_append_left hi, nx_lt hi])
  (by rw [nx_lt (by rw [hls]; omega), List.getElem_append_right (Nat.le_refl _)]; simp)
  (by rw [hlast, hfirst]; exact hon) (by rw [hlast]; exact ha) (by rw [hfirst]; exact hb)
 have hld : (ps.drop (k + 1)).length = ps.length - (k + 1) := List.length_drop
 have hm : mark ps k p = (r' ++ [p]).drop (ps.length - (k + 1)) ++ (r' ++ [p]).take (ps.length - (k + 1)) := by
  rw [hr', List.append_assoc, ← hld, List.drop_left, List.take_left]
  unfold mark
  rfl
 obtain ⟨c1, c2, c3⟩ := begins (r := r' ++ [p]) (s := mark ps k p) (ps.length - (k + 1)) (by rw [hm, List.length_append, List.length_drop, List.length_take]; omega) (fun i => by rw [hm]; exact nx_dt (by rw [hls]; omega) i)
 exact ⟨by rw [c1, b1, a1], c2.2 b2, fun q => by rw [c3, b3, a3]⟩

noncomputable def insAt (r : List (Int × Int)) (p : Int × Int) : Option Nat := (List.range r.length).find? fun i => @decide (Ins (nx r i) (nx r (i + 1)) p) (Classical.propDecidable _)
noncomputable def putC (r : List (Int × Int)) (p : Int × Int) : List (Int × Int) := match insAt r p with
 |some k => mark r k p
 |none => r
theorem insAt_some {r : List (Int × Int)} {p : Int × Int} {k : Nat} (h : insAt r p = some k) : k < r.length ∧ Ins (nx r k) (nx r (k + 1)) p := by
 unfold insAt at h
 have h1 := List.mem_of_find?_eq_some h
 have h2 := List.find?_some h
 exact ⟨List.mem_range.1 h1, (@decide_eq_true_iff _ (Classical.propDecidable _)).1 h2⟩
theorem insAt_none {r : List (Int × Int)} {p : Int × Int} (h : insAt r p = none) : ∀ i, i < r.length → ¬ Ins (nx r i) (nx r (i + 1)) p := fun i hi hins => by
 unfold insAt at h
 have := List.find?_eq_none.1 h i (List.mem_range.2 hi)
 exact this ((@decide_eq_true_iff _ (Classical.propDecidable _)).2 hins)
theorem ins_alone {r : List (Int × Int)} (hs : Sound r) {p : Int × Int} {i j : Nat} (hi : i < r.length) (hj : j < r.length) (h : Ins (nx r i) (nx r (i + 1)) p) (ho : OnS (nx r j) (nx r (j + 1)) p) : j = i := by
 by_cases e : j = i
 ·exact e
 ·exact absurd ho ((Cyc.of hs).alone hi hj e h)
theorem putC_at {r : List (Int × Int)} {p : Int × Int} (hs : Sound r) {k : Nat} (hk : k < r.length) (h : Ins (nx r k) (nx r (k + 1)) p) : putC r p = mark r k p := by
 unfold putC
 cases hf : insAt r p with
 |none => exact absurd h (insAt_none hf k hk)
 |some j =>
  obtain ⟨h1, h2⟩ := insAt_some hf
  rw [ins_alone hs hk h1 h h2.1]
theorem putC_off {r : List (Int × Int)} {p : Int × Int} (h : ∀ i, i < r.length → ¬ Ins (nx r i) (nx r (i + 1)) p) : putC r p = r := by
 unfold putC
 cases hf : insAt r p with
 |none => rfl
 |some j =>
  obtain ⟨h1, h2⟩ := insAt_some hf
  exact absurd h2 (h j h1)
theorem putC_cases (r : List (Int × Int)) (p : Int × Int) : putC r p = r ∨ ∃ k, k < r.length ∧ Ins (nx r k) (nx r (k + 1)) p ∧ putC r p = mark r k p := by
 cases hf : insAt r p with
 |none => exact .inl (putC_off (insAt_none hf))
 |some k =>
  obtain ⟨h1, h2⟩ := insAt_some hf
  refine .inr ⟨k, h1, h2, ?_⟩
  unfold putC; rw [hf]
theorem putC_sound {r : List (Int × Int)} (hs : Sound r) (p : Int × Int) : area (putC r p) = area r ∧ Sound (putC r p) ∧ ∀ q, side (putC r p) q = side r q := by
 rcases putC_cases r p with h | ⟨k, hk, hi, h⟩
 ·rw [h]; exact ⟨rfl, hs, fun _ => rfl⟩
 ·rw [h]; exact mark_sound hs hk hi
theorem mem_putC {r : List (Int × Int)} {p q : Int × Int} (h : q ∈ putC r p) : q ∈ r ∨ q = p := by
 rcases putC_cases r p with e | ⟨k, hk, hi, e⟩
 ·rw [e] at h; exact .inl h
 ·rw [e] at h; exact mem_mark.1 h
theorem nx_memC {r : List (Int × Int)} (h : 0 < r.length) (i : Nat) : nx r i ∈ r := by
 have hi := Nat.mod_lt i h
 rw [← nx_mod r i, nx_lt hi]
 exact List.getElem_mem hi
theorem putC_len (r : List (Int × Int)) (p : Int × Int) : r.length ≤ (putC r p).length ∧ (putC r p).length ≤ r.length + 1 := by
 rcases putC_cases r p with e | ⟨k, hk, hi, e⟩
 ·rw [e]; omega
 ·rw [e, mark_length hk]; omega

def Nrm (r : List (Int × Int)) : Prop := ∀ i, i < r.length → lessB (nx r i) (nx r 0) = false
theorem lessB_iff {a b : Int × Int} : lessB a b = true ↔ a.1 < b.1 ∨ (a.1 = b.1 ∧ a.2 < b.2) := by
 unfold lessB
 rw [Bool.or_eq_true, Bool.and_eq_true, decide_eq_true_iff, decide_eq_true_iff, decide_eq_true_iff]
theorem lessB_not {a b : Int × Int} : lessB a b = false ↔ b.1 < a.1 ∨ (a.1 = b.1 ∧ b.2 ≤ a.2) := by
 rw [← Bool.not_eq_true, lessB_iff]; omega
theorem less_on {a b p c : Int × Int} (hp : OnS a b p) (ha : lessB a c = false) (hb : lessB b c = false) : lessB p c = false := by
 rw [lessB_not] at *
 obtain ⟨h0, h1, h2⟩ := hp
 unfold btw at h1 h2
 by_cases e : p.1 = c.1
 ·right
  refine ⟨e, ?_⟩
  by_cases ea : a.1 = c.1
  ·by_cases eb : b.1 = c.1
   ·omega
   ·have hz : (b.1 - a.1) * (p.2 - a.2) = 0 := by
     unfold crs at h0
     rw [show p.1 - a.1 = 0 by omega] at h0
     omega
    rcases Int.mul_eq_zero.1 hz with h | h <;> omega
  ·by_cases eb : b.1 = c.1
   ·have hz : (b.1 - a.1) * (p.2 - b.2) = 0 := by
     unfold crs at h0
     rw [show p.1 = b.1 by omega] at h0
     have : (b.1 - a.1) * (p.2 - b.2) = (b.1 - a.1) * (p.2 - a.2) - (b.2 - a.2) * (b.1 - a.1) := by grind
     omega
    rcases Int.mul_eq_zero.1 hz with h | h <;> omega
   ·omega
 ·left; omega
theorem leastI_zero {r : List (Int × Int)} (h : Nrm r) : ∀ k, k ≤ r.length → leastI r k = 0
 |0, _ => rfl
 |k + 1, hk => by
  rw [leastI, leastI_zero h k (by omega), h k (by omega)]; rfl
theorem leastI_nrm {r : List (Int × Int)} : ∀ k, k ≤ r.length → ∀ i, i < k → lessB (nx r i) (nx r (leastI r k)) = false
 |0, _, i, hi => absurd hi (by omega)
 |k + 1, hk, i, hi => by
  have ih := leastI_nrm (r := r) k (by omega)
  rw [leastI]
  cases hl : lessB (nx r k) (nx r (leastI r k))
  ·simp only [Bool.false_eq_true, if_false]
   by_cases e : i = k
   ·subst e; exact hl
   ·exact ih i (by omega)
  ·simp only [if_true]
   by_cases e : i = k
   ·subst e; rw [lessB_not]; omega
   ·have h1 := ih i (by omega)
    rw [lessB_not] at *
    rw [lessB_iff] at hl
    omega
theorem rotL_zero (r : List (Int × Int)) : rotL r 0 = r := by
 apply List.ext_getElem?
 intro i
 by_cases hi : i < r.length
 ·rw [rotL_get r 0 i hi, Nat.zero_add, nx_lt hi, List.getElem?_eq_getElem hi]
 ·rw [List.getElem?_eq_none (by rw [rotL_length]; omega), List.getElem?_eq_none (by omega)]
def lstR (r : List (Int × Int)) : List (Int × Int) := rotL r (leastI r r.length)
theorem lstR_nrm {r : List (Int × Int)} (h : Nrm r) : lstR r = r := by unfold lstR; rw [leastI_zero h _ (Nat.le_refl _), rotL_zero]
theorem nrm_lstR (r : List (Int × Int)) : Nrm (lstR r) := fun i hi => by
 have hl : 0 < r.length := by unfold lstR at hi; rw [rotL_length] at hi; omega
 unfold lstR
 rw [nx_rotL _ _ _ hl, nx_rotL _ _ _ hl, Nat.zero_add, ← nx_mod r (i + _)]
 exact leastI_nrm r.length (Nat.le_refl _) _ (Nat.mod_lt _ hl)
theorem nx_inj {r : List (Int × Int)} (hs : Sound r) {i j : Nat} (hi : i < r.length) (hj : j < r.length) (h : nx r i = nx r j) : i = j := by
 by_cases e : i = j
 ·exact e
 ·exact absurd h (hs.2.2 i j (by rw [Nat.mod_eq_of_lt hi, Nat.mod_eq_of_lt hj]; exact e)).1
theorem normP_iff {r : List (Int × Int)} : NormP r ↔ chE r = 0 ∧ Nrm r := by
 constructor
 ·rintro ⟨h, e⟩
  exact ⟨h, by have := nrm_lstR r; unfold lstR at this; rwa [← e] at this⟩
 ·rintro ⟨h, e⟩
  exact ⟨h, (by have := lstR_nrm e; unfold lstR at this; exact this.symm)⟩
theorem nx_mark0 {r : List (Int × Int)} {k : Nat} (hk : k < r.length) (p : Int × Int) : nx (mark r k p) 0 = nx r 0 := by
 rw [nx_lt (by rw [mark_length hk]; omega), nx_lt (by omega)]
 cases r with
 |nil => simp at hk
 |cons a r => simp [mark]
theorem nrm_mem {r : List (Int × Int)} (h : Nrm r) {q : Int × Int} (hq : q ∈ r) : lessB q (nx r 0) = false := by
 obtain ⟨i, hi, e⟩ := List.getElem_of_mem hq
 have := h i hi
 rwa [nx_lt hi, e] at this
theorem nrm_putC {r : List (Int × Int)} (h : Nrm r) (p : Int × Int) : Nrm (putC r p) := by
 rcases putC_cases r p with e | ⟨k, hk, hi, e⟩
 ·rw [e]; exact h
 ·rw [e]
  intro i hil
  have hm : nx (mark r k p) i ∈ mark r k p := nx_memC (by omega) i
  rw [nx_mark0 hk]
  rcases mem_mark.1 hm with hq | hq
  ·exact nrm_mem h hq
  ·rw [hq]
   exact less_on hi.1 (nrm_mem h (nx_memC (by omega) k)) (nrm_mem h (nx_memC (by omega) (k + 1)))

def posL {α : Type} [DecidableEq α] : List α → α → Nat
 |[], _ => 0
 |x :: xs, a => if x = a then 0 else posL xs a + 1
theorem posL_of {α : Type} [DecidableEq α] : ∀ {l : List α} {a : α} {k : Nat}, l[k]? = some a → (∀ j, j < k → l[j]? ≠ some a) → posL l a = k
 |[], a, k, h, _ => by simp at h
 |x :: xs, a, 0, h, _ => by
  obtain rfl : x = a := by simpa using h
  simp [posL]
 |x :: xs, a, k + 1, h, hn => by
  have hx : x ≠ a := fun e => hn 0 (by omega) (by simp [e])
  rw [posL, if_neg hx, posL_of (l := xs) (by simpa using h) (fun j hj => by have := hn (j + 1) (by omega); simpa using this)]
theorem posL_at {α : Type} [DecidableEq α] : ∀ {l : List α} {a : α}, a ∈ l → l[posL l a]? = some a ∧ ∀ j, j < posL l a → l[j]? ≠ some a
 |[], a, h => by cases h
 |x :: xs, a, h => by
  rw [posL]
  by_cases e : x = a
  ·rw [if_pos e]; exact ⟨by simp [e], fun j hj => absurd hj (by omega)⟩
  ·rw [if_neg e]
   obtain ⟨h1, h2⟩ := posL_at (l := xs) (a := a) (by rcases List.mem_cons.1 h with h | h; exact absurd h.symm e; exact h)
   refine ⟨by simpa using h1, fun j hj => ?_⟩
   cases j with
   |zero => simpa using e
   |succ j => simpa using h2 j (by omega)
end Go.Proofs.Ytfjfmieadedjoaa
