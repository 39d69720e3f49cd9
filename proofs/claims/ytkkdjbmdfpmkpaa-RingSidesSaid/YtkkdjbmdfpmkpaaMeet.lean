/- Plain facts on what two stretches have in common. No program is named here. -/
import Derived.Test.YtkkdjbmdfpmkpaaSegs
namespace Go.Proofs.Ytkkdjbmdfpmkpaa

theorem opp_of {m t A B : Int} (hm : 0 < m) (ht : 0 < t) (h : m * A + t * B = 0) : (A = 0 ∧ B = 0) ∨ A * B < 0 := by
  rcases Int.lt_trichotomy A 0 with hA | hA | hA
  · right
    have h1 := Int.mul_neg_of_pos_of_neg hm hA
    have h2 : 0 < B := by
      by_cases hB : 0 < B
      · exact hB
      · exact absurd (Int.mul_nonpos_of_nonneg_of_nonpos (Int.le_of_lt ht) (by omega : B ≤ 0)) (by omega)
    exact Int.mul_neg_of_neg_of_pos hA h2
  · left
    subst hA
    rw [Int.mul_zero, Int.zero_add] at h
    exact ⟨rfl, (Int.mul_eq_zero.1 h).resolve_left (by omega)⟩
  · right
    have h1 := Int.mul_pos hm hA
    have h2 : B < 0 := by
      by_cases hB : B < 0
      · exact hB
      · exact absurd (Int.mul_nonneg (Int.le_of_lt ht) (by omega : 0 ≤ B)) (by omega)
    exact Int.mul_neg_of_pos_of_neg hA h2
theorem not_end {a b p : Int × Int} {N t : Int} (hN : 0 < N) (h1 : N * (p.1 - a.1) = t * (b.1 - a.1)) (h2 : N * (p.2 - a.2) = t * (b.2 - a.2)) : (t = 0 → p = a) ∧ (t = N → p = b) := by
  constructor
  · rintro rfl
    rw [Int.zero_mul] at h1 h2
    have e1 := (Int.mul_eq_zero.1 h1).resolve_left (by omega)
    have e2 := (Int.mul_eq_zero.1 h2).resolve_left (by omega)
    exact Prod.ext (by omega) (by omega)
  · rintro rfl
    have e1 := Int.eq_of_mul_eq_mul_left (by omega) h1
    have e2 := Int.eq_of_mul_eq_mul_left (by omega) h2
    exact Prod.ext (by omega) (by omega)
/-- A point within a stretch that is on a way parts its ends, or they lie on the way. -/
theorem within {a b c d p : Int × Int} (h : OnS a b p) (ha : p ≠ a) (hb : p ≠ b) (hp : crs c d p = 0) : (crs c d a = 0 ∧ crs c d b = 0) ∨ crs c d a * crs c d b < 0 := by
  have hab : a ≠ b := fun e => by subst e; exact ha (on_same h)
  obtain ⟨N, t, hN, h0, h1, e1, e2⟩ := on_part h hab
  obtain ⟨k1, k2⟩ := not_end hN e1 e2
  have e := crs_part e1 e2 c d
  rw [hp, Int.mul_zero] at e
  have h0' : t ≠ 0 := fun e => ha (k1 e)
  have h1' : t ≠ N := fun e => hb (k2 e)
  exact opp_of (m := N - t) (t := t) (by omega) (by omega) (by omega)
theorem one_common {a b c d p : Int × Int} (h1 : OnS a b p) (h2 : OnS c d p) : M1 a b c d ∨ XX a b c d := by
  by_cases hm : M1 a b c d
  · exact Or.inl hm
  · right
    have na : p ≠ a := fun e => hm (Or.inl (e ▸ h2))
    have nb : p ≠ b := fun e => hm (Or.inr (Or.inl (e ▸ h2)))
    have nc : p ≠ c := fun e => hm (Or.inr (Or.inr (Or.inl (e ▸ h1))))
    have nd : p ≠ d := fun e => hm (Or.inr (Or.inr (Or.inr (e ▸ h1))))
    have hab : a ≠ b := fun e => by subst e; exact na (on_same h1)
    have hcd : c ≠ d := fun e => by subst e; exact nc (on_same h2)
    have inline : crs c d a = 0 → crs c d b = 0 → False := by
      intro ca cb
      obtain ⟨f, f1, -⟩ := line_on hcd
      have cc := crs_aba c d
      have cd := crs_abb c d
      have k1 := (f1 a b p ca cb h2.1).1 h1
      have k2 := (f1 c d p cc cd h2.1).1 h2
      apply hm
      unfold M1
      rw [f1 c d a cc cd ca, f1 c d b cc cd cb, f1 a b c ca cb cc, f1 a b d ca cb cd]
      unfold btw at *
      omega
    rcases within h1 na nb h2.1 with ⟨e1, e2⟩ | hx
    · exact absurd (inline e1 e2) id
    · rcases within h2 nc nd h1.1 with ⟨e1, e2⟩ | hy
      · have ca := line3 hab e1 e2 (crs_aba a b)
        have cb := line3 hab e1 e2 (crs_abb a b)
        exact absurd (inline ca cb) id
      · exact ⟨hy, hx⟩

open Classical in
/-- What two stretches have in common, by number. -/
noncomputable def meet (a b c d : Int × Int) : Int := if M3 a b c d then 3 else if M1 a b c d then 1 else if XX a b c d then 2 else 0
section
variable {a b c d p x : Int × Int}
theorem M3.one (h : M3 a b c d) : M1 a b c d := by
  rcases h with ⟨h1, h2, h⟩ | ⟨h1, h2, h⟩ | ⟨h1, h2, h⟩ | ⟨h1, h2, h⟩ | ⟨h1, h2, h⟩ | ⟨h1, h2, h⟩
  · exact Or.inl h1
  · exact Or.inl h1
  · exact Or.inl h1
  · exact Or.inr (Or.inl h1)
  · exact Or.inr (Or.inl h1)
  · exact Or.inr (Or.inr (Or.inl h1))
theorem meet_bound : 0 ≤ meet a b c d ∧ meet a b c d ≤ 3 := by unfold meet; split <;> (try split) <;> (try split) <;> omega
theorem meet_three : meet a b c d = 3 ↔ M3 a b c d := by
  unfold meet
  split
  · simp [*]
  · split <;> (try split) <;> simp [*]
theorem meet_pos : 0 < meet a b c d ↔ (M1 a b c d ∨ XX a b c d) := by
  unfold meet
  split
  · rename_i h; simp [h.one]
  · split
    · simp [*]
    · split <;> simp [*]
theorem meet_one (h1 : M1 a b c d) (h3 : ¬ M3 a b c d) : meet a b c d = 1 := by unfold meet; rw [if_neg h3, if_pos h1]
theorem meet_of {a' b' c' d' : Int × Int} (h3 : M3 a b c d ↔ M3 a' b' c' d') (h1 : M1 a b c d ↔ M1 a' b' c' d') (h2 : XX a b c d ↔ XX a' b' c' d') : meet a b c d = meet a' b' c' d' := by
  have e3 := propext h3
  have e1 := propext h1
  have e2 := propext h2
  unfold meet
  rw [e3, e1, e2]
theorem meet_turn : meet b a c d = meet a b c d := by
  refine meet_of ?_ ?_ ?_
  · rw [M3_iff, M3_iff]
    simp only [on_turn (a := a) (b := b)]
  · unfold M1
    rw [on_turn (a := a) (b := b), on_turn (a := a) (b := b)]
    constructor <;> (rintro (h | h | h | h) <;> simp [h])
  · unfold XX
    rw [crs_turn a b c, crs_turn a b d, Int.neg_mul_neg, Int.mul_comm (crs c d b)]
theorem meet_swap : meet c d a b = meet a b c d := by
  refine meet_of ?_ ?_ ?_
  · rw [M3_iff, M3_iff]
    constructor
    · rintro ⟨x, y, h, h1, h2, h3, h4⟩; exact ⟨x, y, h, h2, h1, h4, h3⟩
    · rintro ⟨x, y, h, h1, h2, h3, h4⟩; exact ⟨x, y, h, h2, h1, h4, h3⟩
  · unfold M1
    constructor <;> (rintro (h | h | h | h) <;> simp [h])
  · unfold XX
    exact And.comm
theorem meet_round : meet d c a b = meet a b c d := meet_turn.trans meet_swap

/-- Where a way cuts a stretch, is a point of the stretch. -/
theorem on_cut (hp : crs a b p = 0) (hq : crs c d p = 0) (hx : crs a b c * crs a b d < 0) : OnS c d p := by
  have e1 : (crs a b c - crs a b d) * (p.1 - c.1) = (d.1 - c.1) * crs a b c := by unfold crs at *; grind
  have e2 : (crs a b c - crs a b d) * (p.2 - c.2) = (d.2 - c.2) * crs a b c := by unfold crs at *; grind
  have f1 : (crs a b c - crs a b d) * (d.1 - c.1) = (d.1 - c.1) * (crs a b c - crs a b d) := Int.mul_comm _ _
  have f2 : (crs a b c - crs a b d) * (d.2 - c.2) = (d.2 - c.2) * (crs a b c - crs a b d) := Int.mul_comm _ _
  have hs : btw 0 (crs a b c - crs a b d) (crs a b c) ∧ crs a b c - crs a b d ≠ 0 := by
    generalize crs a b c = C at *
    generalize crs a b d = D at *
    clear e1 e2 f1 f2
    unfold btw
    rcases Int.lt_trichotomy C 0 with h | h | h
    · have : 0 < D := by
        by_cases hD : 0 < D
        · exact hD
        · exact absurd (Int.mul_nonneg_of_nonpos_of_nonpos (Int.le_of_lt h) (by omega : D ≤ 0)) (by omega)
      omega
    · subst h; rw [Int.zero_mul] at hx; omega
    · have : D < 0 := by
        by_cases hD : D < 0
        · exact hD
        · exact absurd (Int.mul_nonneg (Int.le_of_lt h) (by omega : 0 ≤ D)) (by omega)
      omega
  have m1 := mono hs.2 e1 f1 hs.1
  have m2 := mono hs.2 e2 f2 hs.1
  refine ⟨hq, ?_, ?_⟩
  · unfold btw at *; omega
  · unfold btw at *; omega

theorem mul_signs {A B : Int} (h : A * B < 0) : (A < 0 ∧ 0 < B) ∨ (0 < A ∧ B < 0) := by
  rcases Int.lt_trichotomy A 0 with hA | hA | hA
  · left
    refine ⟨hA, ?_⟩
    by_cases hB : 0 < B
    · exact hB
    · exact absurd (Int.mul_nonneg_of_nonpos_of_nonpos (Int.le_of_lt hA) (by omega : B ≤ 0)) (by omega)
  · subst hA; rw [Int.zero_mul] at h; omega
  · right
    refine ⟨hA, ?_⟩
    by_cases hB : B < 0
    · exact hB
    · exact absurd (Int.mul_nonneg (Int.le_of_lt hA) (by omega : 0 ≤ B)) (by omega)
theorem mul_of {A B : Int} (h : (A < 0 ∧ 0 < B) ∨ (0 < A ∧ B < 0)) : A * B < 0 := by
  rcases h with ⟨h1, h2⟩ | ⟨h1, h2⟩
  · exact Int.mul_neg_of_neg_of_pos h1 h2
  · exact Int.mul_neg_of_pos_of_neg h1 h2
theorem same_sign {N t C K : Int} (hN : 0 < N) (ht : 0 < t) (h : N * K = t * C) : (C < 0 → K < 0) ∧ (0 < C → 0 < K) := by
  constructor
  · intro hC
    have h1 := Int.mul_neg_of_pos_of_neg ht hC
    by_cases hK : K < 0
    · exact hK
    · exact absurd (Int.mul_nonneg (Int.le_of_lt hN) (by omega : 0 ≤ K)) (by omega)
  · intro hC
    have h1 := Int.mul_pos ht hC
    by_cases hK : 0 < K
    · exact hK
    · exact absurd (Int.mul_nonpos_of_nonneg_of_nonpos (Int.le_of_lt hN) (by omega : K ≤ 0)) (by omega)
/-- Between two numbers of one sign is no other sign. -/
theorem mix_sign {m t A B P N : Int} (hN : 0 < N) (hm : 0 ≤ m) (ht : 0 ≤ t) (h : N * P = m * A + t * B) : (A ≤ 0 → 0 < P → 0 < B) ∧ (0 ≤ A → P < 0 → B < 0) := by
  constructor
  · intro hA hP
    have h1 := Int.mul_pos hN hP
    have h2 := Int.mul_nonpos_of_nonneg_of_nonpos hm hA
    by_cases hB : 0 < B
    · exact hB
    · exact absurd (Int.mul_nonpos_of_nonneg_of_nonpos ht (by omega : B ≤ 0)) (by omega)
  · intro hA hP
    have h1 := Int.mul_neg_of_pos_of_neg hN hP
    have h2 := Int.mul_nonneg hm hA
    by_cases hB : B < 0
    · exact hB
    · exact absurd (Int.mul_nonneg ht (by omega : 0 ≤ B)) (by omega)

/-- What meets a part meets the whole. -/
theorem part_whole (hp : OnS a b p) (h : 0 < meet a p c d) : 0 < meet a b c d := by
  rw [meet_pos] at h ⊢
  rcases h with h | ⟨h1, h2⟩
  · obtain ⟨e, -, k1, k2⟩ := M1_iff.1 h
    exact one_common (on_trans hp k1) k2
  · have hab : a ≠ b := fun e => by
      subst e
      rw [on_same hp, crs_aab, Int.zero_mul] at h1
      omega
    obtain ⟨N, t, hN, h0, hl, e1, e2⟩ := on_part hp hab
    obtain ⟨k1, k2⟩ := not_end hN e1 e2
    have ht : 0 < t := by
      by_cases ht : t = 0
      · rw [k1 ht, crs_aab, Int.zero_mul] at h1; omega
      · omega
    have c1 := same_sign ht hN (crs_part2 e1 e2 c).1.symm
    have c2 := same_sign ht hN (crs_part2 e1 e2 d).1.symm
    have mx := mix_sign hN (by omega : 0 ≤ N - t) h0 (crs_part e1 e2 c d)
    have s1 := mul_signs h1
    have s2 := mul_signs h2
    right
    refine ⟨mul_of ?_, mul_of ?_⟩
    · rcases s1 with ⟨u, v⟩ | ⟨u, v⟩
      · exact Or.inl ⟨c1.1 u, c2.2 v⟩
      · exact Or.inr ⟨c1.2 u, c2.1 v⟩
    · rcases s2 with ⟨u, v⟩ | ⟨u, v⟩
      · exact Or.inl ⟨u, mx.1 (by omega) v⟩
      · exact Or.inr ⟨u, mx.2 (by omega) v⟩
theorem part_whole' (hp : OnS a b p) (h : 0 < meet p b c d) : 0 < meet a b c d := by
  rw [← meet_turn]
  refine part_whole (on_turn.1 hp) ?_
  rw [meet_turn]
  exact h
/-- What meets the whole meets a part. -/
theorem whole_part (hp : OnS a b p) (h : 0 < meet a b c d) : 0 < meet a p c d ∨ 0 < meet p b c d := by
  rw [meet_pos] at h
  rw [meet_pos, meet_pos]
  rcases h with h | ⟨h1, h2⟩
  · obtain ⟨e, -, k1, k2⟩ := M1_iff.1 h
    rcases on_split hp k1 with k | k
    · exact Or.inl (one_common k k2)
    · exact Or.inr (one_common k k2)
  · by_cases hP : crs c d p = 0
    · exact Or.inl (one_common (on_right a p) (on_cut hp.1 hP h1))
    · have hab : a ≠ b := fun e => by
        subst e
        rw [crs_aab, Int.zero_mul] at h1
        omega
      obtain ⟨N, t, hN, h0, hl, e1, e2⟩ := on_part hp hab
      obtain ⟨k1, k2⟩ := not_end hN e1 e2
      have s1 := mul_signs h1
      have s2 := mul_signs h2
      by_cases hs : crs c d a * crs c d p < 0
      · have ht : 0 < t := by
          by_cases ht : t = 0
          · rw [k1 ht] at hs
            have := mul_signs hs
            omega
          · omega
        have c1 := same_sign hN ht (crs_part2 e1 e2 c).1
        have c2 := same_sign hN ht (crs_part2 e1 e2 d).1
        refine Or.inl (Or.inr ⟨mul_of ?_, hs⟩)
        rcases s1 with ⟨u, v⟩ | ⟨u, v⟩
        · exact Or.inl ⟨c1.1 u, c2.2 v⟩
        · exact Or.inr ⟨c1.2 u, c2.1 v⟩
      · have hs' : crs c d p * crs c d b < 0 := by
          apply mul_of
          rcases s2 with ⟨u, v⟩ | ⟨u, v⟩
          · refine Or.inl ⟨?_, v⟩
            by_cases hq : crs c d p < 0
            · exact hq
            · exact absurd (mul_of (Or.inl ⟨u, by omega⟩)) hs
          · refine Or.inr ⟨?_, v⟩
            by_cases hq : 0 < crs c d p
            · exact hq
            · exact absurd (mul_of (Or.inr ⟨u, by omega⟩)) hs
        have ht : 0 < N - t := by
          by_cases ht : t = N
          · rw [k2 ht] at hs'
            have := mul_signs hs'
            omega
          · omega
        have c1 := same_sign hN ht (crs_part2 e1 e2 c).2
        have c2 := same_sign hN ht (crs_part2 e1 e2 d).2
        refine Or.inr (Or.inr ⟨mul_of ?_, hs'⟩)
        rcases s1 with ⟨u, v⟩ | ⟨u, v⟩
        · exact Or.inl ⟨c1.1 u, c2.2 v⟩
        · exact Or.inr ⟨c1.2 u, c2.1 v⟩
/-- A point of a stretch cuts it in two. -/
theorem meet_parts (hp : OnS a b p) : (0 < meet a b c d ↔ (0 < meet a p c d ∨ 0 < meet p b c d)) ∧ meet a p p b = 1 ∧ (meet a b c d = 3 ∨ (meet a p c d < 3 ∧ meet p b c d < 3)) := by
  refine ⟨⟨whole_part hp, fun h => h.elim (part_whole hp) (part_whole' hp)⟩, ?_, ?_⟩
  · refine meet_one (Or.inr (Or.inl (on_left p b))) ?_
    intro h
    obtain ⟨x, y, hne, h1, h2, h3, h4⟩ := M3_iff.1 h
    exact hne ((on_both hp h1 h2).trans (on_both hp h3 h4).symm)
  · by_cases h : M3 a b c d
    · exact Or.inl (meet_three.2 h)
    · right
      constructor
      · have hb := meet_bound (a := a) (b := p) (c := c) (d := d)
        have : meet a p c d ≠ 3 := fun e => by
          obtain ⟨x, y, hne, h1, h2, h3, h4⟩ := M3_iff.1 (meet_three.1 e)
          exact h (M3_iff.2 ⟨x, y, hne, on_trans hp h1, h2, on_trans hp h3, h4⟩)
        omega
      · have hb := meet_bound (a := p) (b := b) (c := c) (d := d)
        have : meet p b c d ≠ 3 := fun e => by
          obtain ⟨x, y, hne, h1, h2, h3, h4⟩ := M3_iff.1 (meet_three.1 e)
          exact h (M3_iff.2 ⟨x, y, hne, on_trans' hp h1, h2, on_trans' hp h3, h4⟩)
        omega
end
end Go.Proofs.Ytkkdjbmdfpmkpaa
