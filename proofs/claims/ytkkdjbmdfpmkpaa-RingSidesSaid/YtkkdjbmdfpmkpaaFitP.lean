/- A ring is sound just if its area is above 0 and each two edges have in common just what a sound ring lets them. -/
import Derived.Test.YtkkdjbmdfpmkpaaSimple
import Derived.Test.YtkkdjbmdfpmkpaaRingW
namespace Go.Proofs.Ytkkdjbmdfpmkpaa

theorem apart_ends {a b c d : Int × Int} (h : meet a b c d = 0) : a ≠ c ∧ a ≠ d ∧ b ≠ c ∧ b ≠ d := by
  have h2 : meet b a c d = 0 := by rw [meet_turn]; exact h
  exact ⟨not_corner (on_left c d) h, not_corner (on_right c d) h, not_corner (on_left c d) h2, not_corner (on_right c d) h2⟩
theorem fitB_iff {ps : List (Int × Int)} {i j : Nat} : fitB ps i j = true ↔ meet (nx ps i) (nx ps (i + 1)) (nx ps j) (nx ps (j + 1)) = if flw i j ps.length then 1 else 0 := by
  unfold fitB fitV
  rw [decide_eq_true_iff, meetN_eq]
theorem area_small {ps : List (Int × Int)} (h : ps.length < 3) : area ps = 0 := by
  unfold area
  have hp := fun i => nx_per ps i
  match hl : ps.length with
  | 0 => rfl
  | 1 =>
    have e : nx ps 1 = nx ps 0 := by have := hp 0; rwa [hl] at this
    simp only [sumTo, Nat.zero_add, e]
    unfold crs0; grind
  | 2 =>
    have e : nx ps 2 = nx ps 0 := by have := hp 0; rwa [hl] at this
    simp only [sumTo, Nat.zero_add, Nat.reduceAdd, e]
    unfold crs0; grind
  | n + 3 => omega
theorem area_three {ps : List (Int × Int)} (h : ps.length = 3) : area ps = crs0 (nx ps 0) (nx ps 1) + crs0 (nx ps 1) (nx ps 2) + crs0 (nx ps 2) (nx ps 0) := by
  have e : nx ps 3 = nx ps 0 := by have := nx_per ps 0; rwa [h] at this
  unfold area
  rw [h]
  simp only [sumTo, Nat.zero_add, Nat.reduceAdd, e]
  omega
theorem nx_last {ps : List (Int × Int)} (h : 0 < ps.length) : nx ps (ps.length - 1 + 1) = nx ps 0 := by
  rw [show ps.length - 1 + 1 = 0 + ps.length by omega, nx_per]
theorem sound_fit {ps : List (Int × Int)} : Sound ps ↔ 0 < area ps ∧ AllFit ps := by
  constructor
  · intro hs
    obtain ⟨h3, ha, hall⟩ := sound_iff.1 hs
    refine ⟨ha, fun i j hij hj => fitB_iff.2 ?_⟩
    obtain ⟨-, h1, h0⟩ := hall i j hij hj
    by_cases hf : flw i j ps.length = true
    · rw [if_pos hf]
      unfold flw at hf
      rw [decide_eq_true_iff] at hf
      exact h1 ((adj_lt h3 hij hj).2 (by omega))
    · rw [if_neg hf]
      unfold flw at hf
      rw [decide_eq_true_iff] at hf
      exact h0 (fun h => hf (by have := (adj_lt h3 hij hj).1 h; omega))
  · rintro ⟨ha, hf⟩
    have h3 : 3 ≤ ps.length := by
      refine Nat.le_of_not_lt fun h => ?_
      rw [area_small h] at ha
      omega
    have far : ∀ i j, i < j → j < ps.length → j - i ≠ 1 → j - i ≠ ps.length - 1 → meet (nx ps i) (nx ps (i + 1)) (nx ps j) (nx ps (j + 1)) = 0 := fun i j hij hj h1 h2 => by
      have := fitB_iff.1 (hf i j hij hj)
      rwa [if_neg (by unfold flw; rw [decide_eq_true_iff]; omega)] at this
    refine sound_iff.2 ⟨h3, ha, fun i j hij hj => ⟨fun e => ?_, fun h => ?_, fun h => ?_⟩⟩
    · by_cases h4 : ps.length = 3
      · rw [area_three h4] at ha
        have hc : (i = 0 ∧ j = 1) ∨ (i = 0 ∧ j = 2) ∨ (i = 1 ∧ j = 2) := by omega
        rcases hc with ⟨rfl, rfl⟩ | ⟨rfl, rfl⟩ | ⟨rfl, rfl⟩
        · rw [e] at ha; unfold crs0 at ha; grind
        · rw [e] at ha; unfold crs0 at ha; grind
        · rw [e] at ha; unfold crs0 at ha; grind
      · have h0 : 0 < ps.length := by omega
        by_cases h5 : j - i = 1
        · obtain rfl : j = i + 1 := by omega
          by_cases h6 : i = 0
          · subst h6
            have := far 1 (ps.length - 1) (by omega) (by omega) (by omega) (by omega)
            rw [nx_last h0] at this
            exact (apart_ends this).2.1 e.symm
          · have := far (i - 1) (i + 1) (by omega) hj (by omega) (by omega)
            rw [show i - 1 + 1 = i by omega] at this
            exact (apart_ends this).2.2.1 e
        · by_cases h6 : j - i = ps.length - 1
          · obtain rfl : i = 0 := by omega
            obtain rfl : j = ps.length - 1 := by omega
            have := far 0 (ps.length - 2) (by omega) (by omega) (by omega) (by omega)
            rw [show ps.length - 2 + 1 = ps.length - 1 by omega] at this
            exact (apart_ends this).2.1 e
          · exact (apart_ends (far i j hij hj h5 h6)).1 e
    · have := fitB_iff.1 (hf i j hij hj)
      rwa [if_pos (by unfold flw; rw [decide_eq_true_iff]; have := (adj_lt h3 hij hj).1 h; omega)] at this
    · refine far i j hij hj (fun h1 => h ((adj_lt h3 hij hj).2 (by omega))) (fun h1 => h ((adj_lt h3 hij hj).2 (by omega)))
end Go.Proofs.Ytkkdjbmdfpmkpaa
