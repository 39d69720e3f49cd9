/- Layer pager, plain: how many pages are free; many pages freed. -/
import Derived.Test.YtfjiceoagenfnaaDoorPInv
namespace Go.Proofs.YtfjiceoagenfnaaDoor

theorem roomOf_congr {ts ts' : List Nat} (hl : ts.length = ts'.length) (h : ∀ i, 2 ≤ i → i < ts.length → fre (ts.getD i 0) = fre (ts'.getD i 0)) : roomOf ts = roomOf ts' := by
  unfold roomOf
  have e : ∀ l : List Nat, l.countP fre = (l.map fre).countP id := fun l => by rw [List.countP_map]; rfl
  rw [e, e]
  congr 1
  refine List.ext_getElem? fun j => ?_
  rw [List.getElem?_map, List.getElem?_map, List.getElem?_drop, List.getElem?_drop]
  by_cases hj : 2 + j < ts.length
  · have := h (2 + j) (by omega) hj
    rw [List.getD_eq_getElem?_getD, List.getD_eq_getElem?_getD, List.getElem?_eq_getElem hj, List.getElem?_eq_getElem (by omega)] at this
    rw [List.getElem?_eq_getElem hj, List.getElem?_eq_getElem (by omega)]
    exact congrArg some this
  · rw [List.getElem?_eq_none (by omega), List.getElem?_eq_none (by omega)]
theorem Inv.room_all {st : DS} {ps : PS} {s : SS} {now part : List Pge} (h : Inv st ps s now part) (hp : ∀ x ∈ part, 2 ≤ x.1 ∧ x.1 < st.sz) : roomOf ps.ts + now.length + part.length = st.sz - 2 := by
  have h1 := usedL_room st.sz (now ++ part) (fun x hx => (List.mem_append.1 hx).elim (fun hx => ⟨(h.hnow x hx).1, (h.hnow x hx).2.1⟩) (hp x)) (by simpa [ats] using h.nd)
  have h2 : roomOf ps.ts = roomOf (usedL st.sz (now ++ part)) := roomOf_congr (by rw [usedL_len, h.len]) (fun i hi2 hi => by
    rw [h.len] at hi
    rw [usedL_get _ _ hi]
    obtain ⟨a, b, c, d⟩ := h.tab i hi2 hi
    have hm : i ∈ ats (now ++ part) ↔ i ∈ ats now ∨ i ∈ ats part := by simp [ats]
    by_cases e1 : i ∈ ats now
    · rw [if_pos (hm.2 (.inl e1))]
      by_cases e2 : i ∈ ats s.pages
      · rw [a e1 e2]
      · rw [b e1 e2]; rfl
    · by_cases e2 : i ∈ ats part
      · rw [if_pos (hm.2 (.inr e2)), c e1 e2]; rfl
      · rw [if_neg (fun e => (hm.1 e).elim e1 e2)]
        have := d e1 e2
        show decide _ = true
        exact decide_eq_true this)
  rw [h2]
  rw [List.length_append] at h1
  omega
theorem Inv.part_lt {st : DS} {ps : PS} {s : SS} {now part : List Pge} (h : Inv st ps s now part) : ∀ x ∈ part, 2 ≤ x.1 ∧ x.1 < st.sz := fun x hx => by
  obtain ⟨y, hy, e⟩ := List.mem_map.1 (h.pp x.1 (mem_ats hx))
  obtain ⟨a, b, -, -⟩ := h.sp y hy
  exact ⟨e ▸ a, e ▸ b⟩
theorem free_some {ts : List Nat} {n : Nat} (hl : ts.length = n) (h : 0 < roomOf ts) : ∃ i, 2 ≤ i ∧ i < n ∧ fre (ts.getD i 0) = true := by
  refine Classical.byContradiction fun hn => ?_
  have := roomOf_zero (ts := ts) (fun i h2 hi => by
    cases e : fre (ts.getD i 0) with
    | false => rfl
    | true => exact absurd ⟨i, h2, by omega, e⟩ hn)
  omega
theorem free_none {ts : List Nat} {n : Nat} (hl : ts.length = n) (h : roomOf ts = 0) : ∀ i, 2 ≤ i → i < n → fre (ts.getD i 0) = false := fun i h2 hi => by
  cases e : fre (ts.getD i 0) with
  | false => rfl
  | true => have := roomOf_pos h2 (by omega) e; omega
/-- Which may be a root: one of those in use. -/
theorem Inv.may {st : DS} {ps : PS} {s : SS} {now part : List Pge} (h : Inv st ps s now part) {k : Nat} (hk : k < now.length) : ps.ts.getD now[k].1 0 = 2 ∨ ps.ts.getD now[k].1 0 = 3 := by
  obtain ⟨a, b, c, d⟩ := h.code hk
  by_cases e : now[k].1 ∈ ats s.pages
  · exact .inr (c e)
  · exact .inl (d e)
/-- All pages freed, one after the other. -/
def relL (ts : List Nat) (l : List Nat) : List Nat := l.foldl (fun ts i => ts.set i (relC (ts.getD i 0))) ts
theorem Inv.freeAll {st : DS} {s : SS} : ∀ (now part : List Pge) (ps : PS), Inv st ps s now part → ∃ part', Inv st { ps with ts := relL ps.ts (ats now) } s [] part' ∧ ((∀ i ∈ ats now, i ∈ ats s.pages) → part'.length = part.length + now.length) ∧ ((∀ i ∈ ats now, i ∉ ats s.pages) → part' = part)
  | [], part, ps, h => ⟨part, h, fun _ => rfl, fun _ => rfl⟩
  | x :: now, part, ps, h => by
    have hd : Decidable (x.1 ∈ ats s.pages) := inferInstance
    have h1 := h.free (k := 0) (by simp) (part' := if x.1 ∈ ats s.pages then part ++ [x] else part) ⟨fun e => if_pos e, fun e => if_neg e⟩
    obtain ⟨part', h2, h3, h4⟩ := Inv.freeAll now _ _ h1
    refine ⟨part', h2, fun ha => ?_, fun ha => ?_⟩
    · have := h3 (fun i hi => ha i (List.mem_cons_of_mem _ hi))
      rw [if_pos (ha x.1 (List.mem_cons_self ..)), List.length_append] at this
      simp only [List.length_cons, List.length_nil] at this ⊢; omega
    · rw [h4 (fun i hi => ha i (List.mem_cons_of_mem _ hi)), if_neg (ha x.1 (List.mem_cons_self ..))]
end Go.Proofs.YtfjiceoagenfnaaDoor
