/- How often a ring goes round a point, as the program counts it: of rings begun elsewhere, moved, or with a corner more. -/
import Derived.Test.YtkkdjbmdfpmkpaaRim2
namespace Go.Proofs.Ytkkdjbmdfpmkpaa

/-- How an edge passes a point's level to its right: 1 upward, -1 downward. -/
def psv (a b p : Int × Int) : Int := if a.2 < p.2 ∧ p.2 ≤ b.2 ∧ 0 < crs a b p then 1 else if b.2 < p.2 ∧ p.2 ≤ a.2 ∧ crs a b p < 0 then -1 else 0
def wind (r : List (Int × Int)) (p : Int × Int) : Int := sumTo (fun i => psv (nx r i) (nx r (i + 1)) p) r.length
open Classical in
noncomputable def sideW (r : List (Int × Int)) (p : Int × Int) : Int := if onRim r p then 0 else if wind r p = 1 then 1 else -1
theorem side_zero {r : List (Int × Int)} {p : Int × Int} : side r p = 0 ↔ onRim r p := by
  unfold side
  by_cases h : onRim r p
  · simp [h]
  · rw [if_neg h]
    constructor
    · intro e; split at e <;> omega
    · exact fun h' => absurd h' h
theorem sideW_same {r s : List (Int × Int)} {p q : Int × Int} (h : side s q = side r p) (hw : wind s q = wind r p) : sideW s q = sideW r p := by
  have ho : onRim s q ↔ onRim r p := by rw [← side_zero, ← side_zero, h]
  unfold sideW
  rw [hw]
  by_cases h : onRim r p
  · rw [if_pos h, if_pos (ho.2 h)]
  · rw [if_neg h, if_neg (fun e => h (ho.1 e))]
theorem psv_mvd (d a b p : Int × Int) : psv (mvd d a) (mvd d b) (mvd d p) = psv a b p := by
  unfold psv
  rw [crs_mvd]
  unfold mvd
  simp only [Int.add_lt_add_iff_right, Int.add_le_add_iff_right]
theorem psv_split {a b p : Int × Int} (h : OnS a b p) (ha : p ≠ a) (hb : p ≠ b) (q : Int × Int) : psv a b q = psv a p q + psv p b q := by
  obtain ⟨s1, s2, s3, s4⟩ := inner_sign h ha hb q
  have hy := h.2.2
  unfold btw at hy
  unfold psv
  simp only [s1, s2, s3, s4]
  generalize crs a b q = c
  repeat' split
  all_goals omega
theorem begins_wind {r s : List (Int × Int)} (k : Nat) (hl : s.length = r.length) (hs : ∀ i, nx s i = nx r (i + k)) (p : Int × Int) : wind s p = wind r p := by
  have hper : ∀ i, nx r (i + r.length) = nx r i := nx_per r
  have hper1 : ∀ i, nx r (i + r.length + 1) = nx r (i + 1) := fun i => by rw [show i + r.length + 1 = i + 1 + r.length by omega, hper]
  have hs1 : ∀ i, nx s (i + 1) = nx r (i + k + 1) := fun i => by rw [hs, show i + 1 + k = i + k + 1 by omega]
  unfold wind
  rw [hl]
  have := sumTo_shift (f := fun i => psv (nx r i) (nx r (i + 1)) p) (n := r.length) (fun i => by simp only [hper, hper1]) k
  rw [← this]
  exact sumTo_ext _ fun i _ => by rw [hs, hs1]
theorem shifts_wind {r s : List (Int × Int)} (d : Int × Int) (hl : s.length = r.length) (hs : ∀ i, 0 < r.length → nx s i = mvd d (nx r i)) (p : Int × Int) : wind s (mvd d p) = wind r p := by
  unfold wind
  rw [hl]
  exact sumTo_ext _ fun i hi => by rw [hs i (by omega), hs (i + 1) (by omega), psv_mvd]
theorem marks_wind {r s : List (Int × Int)} {p : Int × Int} (h0 : 0 < r.length) (hl : s.length = r.length + 1) (hs : ∀ i, i < r.length → nx s i = nx r i) (hp : nx s r.length = p)
    (hon : OnS (nx r (r.length - 1)) (nx r 0) p) (ha : p ≠ nx r (r.length - 1)) (hb : p ≠ nx r 0) (q : Int × Int) : wind s q = wind r q := by
  obtain ⟨m, hm⟩ : ∃ m, r.length = m + 1 := ⟨r.length - 1, by omega⟩
  have hr0 : nx r (m + 1) = nx r 0 := by have := nx_per r 0; rwa [Nat.zero_add, hm] at this
  have hs0 : nx s (m + 1 + 1) = nx r 0 := by have := nx_per s 0; rw [Nat.zero_add, hl, hm, hs 0 (by omega)] at this; exact this
  rw [hm, Nat.add_sub_cancel] at hon ha
  rw [hm] at hs hp hl
  have hsm := hs m (by omega)
  unfold wind
  rw [hl, hm, sumTo, sumTo, sumTo]
  rw [sumTo_ext (f := fun i => psv (nx s i) (nx s (i + 1)) q) (g := fun i => psv (nx r i) (nx r (i + 1)) q) m (fun i hi => by rw [hs i (by omega), hs (i + 1) (by omega)])]
  rw [hsm, hp, hs0, hr0]
  have := psv_split hon ha hb q
  omega
end Go.Proofs.Ytkkdjbmdfpmkpaa
