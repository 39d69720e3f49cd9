/- Which parcels of two plans are other ones: plainly. -/
import Derived.Test.YtbcmnhbpomjinaaGreatRefPar
namespace Go.Proofs.YtbcmnhbpomjinaaGreat

/-- The first parcel of a number. -/
def firstQ (ps : List Par) (id : Int) : Option Par := ps.find? fun x => x.id == id
def idsQ (ps : List Par) : List Int := ps.map Par.id
/-- A number that one of two plans alone has, or both with other parcels. -/
def ChP (ps qs : List Par) (id : Int) : Prop := (id ∈ idsQ ps ∨ id ∈ idsQ qs) ∧ ¬ ∃ a, firstQ ps id = some a ∧ firstQ qs id = some a
theorem ChP.swap {ps qs : List Par} {id : Int} (h : ChP ps qs id) : ChP qs ps id := ⟨h.1.symm, fun ⟨a, h1, h2⟩ => h.2 ⟨a, h2, h1⟩⟩
theorem chP_swap {ps qs : List Par} {id : Int} : ChP ps qs id ↔ ChP qs ps id := ⟨ChP.swap, ChP.swap⟩
theorem firstQ_some {ps : List Par} {id : Int} (h : id ∈ idsQ ps) : ∃ a, firstQ ps id = some a := by
  obtain ⟨x, hx, e⟩ := List.mem_map.1 h
  unfold firstQ
  cases hf : ps.find? fun x => x.id == id with
  | some a => exact ⟨a, rfl⟩
  | none => exact absurd (List.find?_eq_none.1 hf x hx) (by simp [e])
theorem firstQ_none {ps : List Par} {id : Int} (h : id ∉ idsQ ps) : firstQ ps id = none := by
  unfold firstQ
  rw [List.find?_eq_none]
  intro x hx
  simp only [beq_iff_eq]
  exact fun e => h (List.mem_map.2 ⟨x, hx, e⟩)
theorem firstQ_id {ps : List Par} {id : Int} {a : Par} (h : firstQ ps id = some a) : a.id = id ∧ a ∈ ps := by
  unfold firstQ at h
  exact ⟨by simpa using List.find?_some h, List.mem_of_find?_eq_some h⟩
theorem chP_self {ps : List Par} {id : Int} : ¬ ChP ps ps id := by
  rintro ⟨h, hn⟩
  obtain ⟨a, ha⟩ := firstQ_some (h.elim (fun h => h) (fun h => h))
  exact hn ⟨a, ha, ha⟩
/-- Lists that rise, with the same numbers, are the same. -/
theorem rise_one : ∀ {l m : List Int}, l.Pairwise (· < ·) → m.Pairwise (· < ·) → (∀ n, n ∈ l ↔ n ∈ m) → l = m
  | [], [], _, _, _ => rfl
  | [], b :: m, _, _, h => by have := (h b).2 List.mem_cons_self; cases this
  | a :: l, [], _, _, h => by have := (h a).1 List.mem_cons_self; cases this
  | a :: l, b :: m, hl, hm, h => by
    obtain ⟨h1, h2⟩ := List.pairwise_cons.1 hl
    obtain ⟨h3, h4⟩ := List.pairwise_cons.1 hm
    have e : a = b := by
      rcases List.mem_cons.1 ((h a).1 List.mem_cons_self) with e | e
      · exact e
      · rcases List.mem_cons.1 ((h b).2 List.mem_cons_self) with e' | e'
        · exact e'.symm
        · have := h1 b e'; have := h3 a e; omega
    subst e
    rw [rise_one h2 h4 fun n => ?_]
    constructor
    · intro hn
      rcases List.mem_cons.1 ((h n).1 (List.mem_cons_of_mem _ hn)) with e | e
      · have := h1 n hn; omega
      · exact e
    · intro hn
      rcases List.mem_cons.1 ((h n).2 (List.mem_cons_of_mem _ hn)) with e | e
      · have := h3 n hn; omega
      · exact e
/-- What an insertion leaves: sorted up to there but for the number that is on its way. -/
theorem firstQ_at {ps : List Par} {id : Int} {k : Nat} {x : Par} (hx : ps[k]? = some x) (hid : x.id = id) (hno : ∀ j, j < k → ∀ y, ps[j]? = some y → y.id ≠ id) : firstQ ps id = some x := by
  unfold firstQ
  rw [List.find?_eq_some_iff_getElem]
  obtain ⟨hk, e⟩ := List.getElem?_eq_some_iff.1 hx
  refine ⟨by simpa using hid, k, hk, e, fun j hj => ?_⟩
  have := hno j hj ps[j] (List.getElem?_eq_getElem (by omega))
  simpa using this
end Go.Proofs.YtbcmnhbpomjinaaGreat

/- Insertion sort, plainly: a number on its way to its place. -/
namespace Go.Proofs.YtbcmnhbpomjinaaGreat

/-- Two neighbours have changed places. -/
def swp (M : List Int) (j : Nat) : List Int := (M.set j (M.getD (j - 1) 0)).set (j - 1) (M.getD j 0)
theorem swp_len (M : List Int) (j : Nat) : (swp M j).length = M.length := by unfold swp; rw [List.length_set, List.length_set]
theorem swp_get {M : List Int} {j : Nat} (h0 : 0 < j) (h1 : j < M.length) (a : Nat) : (swp M j)[a]? = if a = j - 1 then M[j]? else if a = j then M[j - 1]? else M[a]? := by
  unfold swp
  rw [List.getElem?_set, List.length_set]
  by_cases e : j - 1 = a
  · rw [if_pos e, if_pos (by omega), if_pos e.symm, List.getD_eq_getElem?_getD, List.getElem?_eq_getElem h1]; rfl
  · rw [if_neg e, if_neg (fun h => e h.symm), List.getElem?_set]
    by_cases e2 : j = a
    · rw [if_pos e2, if_pos h1, if_pos e2.symm, List.getD_eq_getElem?_getD, List.getElem?_eq_getElem (show j - 1 < M.length by omega)]; rfl
    · rw [if_neg e2, if_neg (fun h => e2 h.symm)]
theorem swp_perm {M : List Int} {j : Nat} (h0 : 0 < j) (h1 : j < M.length) : (swp M j).Perm M := by
  have h2 : j - 1 < M.length := by omega
  have e1 : M.getD (j - 1) 0 = M[j - 1] := by rw [List.getD_eq_getElem?_getD, List.getElem?_eq_getElem h2]; rfl
  have e2 : M.getD j 0 = M[j] := by rw [List.getD_eq_getElem?_getD, List.getElem?_eq_getElem h1]; rfl
  unfold swp
  rw [e1, e2]
  exact List.set_set_perm h1 h2
def RisesTo (M : List Int) (n : Nat) : Prop := ∀ a b, a < b → b < n → ∀ x y, M[a]? = some x → M[b]? = some y → x < y
def Slides (M : List Int) (i j : Nat) : Prop := (∀ a b, a < b → b ≤ i → a ≠ j → b ≠ j → ∀ x y, M[a]? = some x → M[b]? = some y → x < y) ∧ ∀ b, j < b → b ≤ i → ∀ x y, M[j]? = some x → M[b]? = some y → x < y
theorem slides_start {M : List Int} {i : Nat} (h : RisesTo M i) : Slides M i i := ⟨fun a b hab hb ha hbj x y hx hy => h a b hab (by omega) x y hx hy, fun b h1 h2 => absurd h1 (by omega)⟩
theorem slides_step {M : List Int} {i j : Nat} (h : Slides M i j) (h0 : 0 < j) (hj : j ≤ i) (hi : i < M.length) {u v : Int} (hu : M[j - 1]? = some u) (hv : M[j]? = some v) (hlt : v < u) : Slides (swp M j) i (j - 1) := by
  obtain ⟨h1, h2⟩ := h
  have hg := fun a => swp_get (M := M) h0 (by omega) a
  constructor
  · intro a b hab hb ha hbj x y hx hy
    rw [hg, if_neg ha] at hx
    rw [hg, if_neg hbj] at hy
    by_cases ea : a = j
    · rw [if_pos ea] at hx
      rw [if_neg (by omega)] at hy
      exact h1 (j - 1) b (by omega) hb (by omega) (by omega) x y hx hy
    · rw [if_neg ea] at hx
      by_cases eb : b = j
      · rw [if_pos eb] at hy
        exact h1 a (j - 1) (by omega) (by omega) ea (by omega) x y hx hy
      · rw [if_neg eb] at hy
        exact h1 a b hab hb ea eb x y hx hy
  · intro b hb hbi x y hx hy
    rw [hg, if_pos rfl] at hx
    rw [hg, if_neg (by omega)] at hy
    have ex := Option.some.inj (hv.symm.trans hx)
    by_cases eb : b = j
    · rw [if_pos eb] at hy
      have ey := Option.some.inj (hu.symm.trans hy)
      omega
    · rw [if_neg eb] at hy
      exact h2 b (by omega) hbi x y hx hy
theorem slides_end {M : List Int} {i j : Nat} (h : Slides M i j) (hj : j ≤ i) (hl : j = 0 ∨ ∃ u v, M[j - 1]? = some u ∧ M[j]? = some v ∧ u < v) : RisesTo M (i + 1) := by
  obtain ⟨h1, h2⟩ := h
  intro a b hab hb x y hx hy
  by_cases eb : b = j
  · subst eb
    rcases hl with rfl | ⟨u, v, hu, hv, huv⟩
    · omega
    · obtain rfl := Option.some.inj (hv.symm.trans hy)
      by_cases ea : a = b - 1
      · subst ea
        obtain rfl := Option.some.inj (hu.symm.trans hx)
        exact huv
      · have := h1 a (b - 1) (by omega) (by omega) (by omega) (by omega) x u hx hu
        omega
  · by_cases ea : a = j
    · subst ea
      exact h2 b hab (by omega) x y hx hy
    · exact h1 a b hab (by omega) ea eb x y hx hy
theorem rises_all {M : List Int} (h : RisesTo M M.length) : M.Pairwise (· < ·) := by
  rw [List.pairwise_iff_getElem]
  intro i j hi hj hij
  exact h i j hij hj _ _ (List.getElem?_eq_getElem hi) (List.getElem?_eq_getElem hj)
theorem nodup_next {M : List Int} (h : M.Nodup) {j : Nat} {u v : Int} (h0 : 0 < j) (hu : M[j - 1]? = some u) (hv : M[j]? = some v) (hle : ¬ v < u) : u < v := by
  obtain ⟨h1, e1⟩ := List.getElem?_eq_some_iff.1 hu
  obtain ⟨h2, e2⟩ := List.getElem?_eq_some_iff.1 hv
  have hne : u ≠ v := fun e => by
    have := (List.pairwise_iff_getElem.1 h) (j - 1) j h1 h2 (by omega)
    exact this (by rw [e1, e2, e])
  omega
end Go.Proofs.YtbcmnhbpomjinaaGreat
