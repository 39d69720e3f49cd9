/- What two stretches have in common, by the ends that they share: it is what they have in common. -/
import Derived.Test.YtkkdjbmdfpmkpaaMeets2
namespace Go.Proofs.Ytkkdjbmdfpmkpaa
open Go.RowKit

section
variable {a b c d x : Int × Int}
theorem mem_ends : x ∈ ends a b c d ↔ (x = a ∨ x = b ∨ x = c ∨ x = d) ∧ OnS a b x ∧ OnS c d x := by
  unfold ends ends2
  simp only [List.mem_append, List.mem_filter, List.mem_cons, List.not_mem_nil, or_false, onB_iff]
  constructor
  · rintro (⟨rfl | rfl, h⟩ | ⟨rfl | rfl, h⟩)
    · exact ⟨.inl rfl, on_left _ _, h⟩
    · exact ⟨.inr (.inl rfl), on_right _ _, h⟩
    · exact ⟨.inr (.inr (.inl rfl)), h, on_left _ _⟩
    · exact ⟨.inr (.inr (.inr rfl)), h, on_right _ _⟩
  · rintro ⟨rfl | rfl | rfl | rfl, h1, h2⟩
    · exact .inl ⟨.inl rfl, h2⟩
    · exact .inl ⟨.inr rfl, h2⟩
    · exact .inr ⟨.inl rfl, h1⟩
    · exact .inr ⟨.inr rfl, h1⟩
theorem ends_none : (ends a b c d).length = 0 ↔ ¬ M1 a b c d := by
  rw [M1_iff]
  constructor
  · rintro h ⟨e, h1, h2, h3⟩
    have := mem_ends.2 ⟨h1, h2, h3⟩
    rw [List.length_eq_zero_iff.1 h] at this
    cases this
  · intro h
    rw [List.length_eq_zero_iff]
    apply List.eq_nil_iff_forall_not_mem.2
    intro e he
    obtain ⟨h1, h2, h3⟩ := mem_ends.1 he
    exact h ⟨e, h1, h2, h3⟩
theorem ends_two (h : M3 a b c d) : ∃ x y, x ∈ ends a b c d ∧ y ∈ ends a b c d ∧ x ≠ y := by
  have ma : OnS c d a → a ∈ ends a b c d := fun h => mem_ends.2 ⟨.inl rfl, on_left _ _, h⟩
  have mb : OnS c d b → b ∈ ends a b c d := fun h => mem_ends.2 ⟨.inr (.inl rfl), on_right _ _, h⟩
  have mc : OnS a b c → c ∈ ends a b c d := fun h => mem_ends.2 ⟨.inr (.inr (.inl rfl)), h, on_left _ _⟩
  have md : OnS a b d → d ∈ ends a b c d := fun h => mem_ends.2 ⟨.inr (.inr (.inr rfl)), h, on_right _ _⟩
  rcases h with ⟨h1, h2, h⟩ | ⟨h1, h2, h⟩ | ⟨h1, h2, h⟩ | ⟨h1, h2, h⟩ | ⟨h1, h2, h⟩ | ⟨h1, h2, h⟩
  · exact ⟨a, b, ma h1, mb h2, h⟩
  · exact ⟨a, c, ma h1, mc h2, h⟩
  · exact ⟨a, d, ma h1, md h2, h⟩
  · exact ⟨b, c, mb h1, mc h2, h⟩
  · exact ⟨b, d, mb h1, md h2, h⟩
  · exact ⟨c, d, mc h1, md h2, h⟩
theorem oneB_iff {ps : List (Int × Int)} : oneB ps = true ↔ ∀ x ∈ ps, ∀ y ∈ ps, x = y := by
  unfold oneB
  simp only [List.all_eq_true, decide_eq_true_eq]
  constructor
  · intro h x hx y hy
    rw [h x hx, h y hy]
  · intro h x hx
    cases ps with
    | nil => cases hx
    | cons p q => exact h x hx p List.mem_cons_self
theorem meetN_eq (a b c d : Int × Int) : meetN a b c d = meet a b c d := by
  unfold meetN
  by_cases h0 : (ends a b c d).length = 0
  · rw [if_pos h0]
    have h1 := ends_none.1 h0
    have h3 : ¬ M3 a b c d := fun h => h1 h.one
    unfold meet
    rw [if_neg h3, if_neg h1]
    by_cases hx : XX a b c d
    · rw [if_pos hx, if_pos]
      rw [Bool.and_eq_true, ptB_iff, ptB_iff]
      exact hx
    · rw [if_neg hx, if_neg]
      rw [Bool.and_eq_true, ptB_iff, ptB_iff]
      exact hx
  · rw [if_neg h0]
    have h1 : M1 a b c d := by
      by_cases h : M1 a b c d
      · exact h
      · exact absurd (ends_none.2 h) h0
    by_cases h3 : M3 a b c d
    · obtain ⟨x, y, hx, hy, hne⟩ := ends_two h3
      rw [if_neg (fun e => hne (oneB_iff.1 e x hx y hy)), meet_three.2 h3]
    · rw [meet_one h1 h3, if_pos]
      apply oneB_iff.2
      intro x hx y hy
      by_cases hxy : x = y
      · exact hxy
      · obtain ⟨-, u1, u2⟩ := mem_ends.1 hx
        obtain ⟨-, v1, v2⟩ := mem_ends.1 hy
        exact absurd (M3_iff.2 ⟨x, y, hxy, u1, u2, v1, v2⟩) h3
end
end Go.Proofs.Ytkkdjbmdfpmkpaa
