/- Plain facts on rings of points: the area, the side of a point and soundness hang on no corner's number. No program is named here. -/
import Derived.Test.YtkkdjbmdfpmkpaaGeoPlain
namespace Go.Proofs.Ytkkdjbmdfpmkpaa

/-- A corner, counted on and on around the ring. -/
def nx (r : List (Int × Int)) (i : Nat) : Int × Int := r.getD (i % r.length) (0, 0)
theorem nx_lt {r : List (Int × Int)} {i : Nat} (h : i < r.length) : nx r i = r[i] := by
  unfold nx
  rw [Nat.mod_eq_of_lt h, List.getD_eq_getElem?_getD, List.getElem?_eq_getElem h]
  rfl
theorem nx_per (r : List (Int × Int)) (i : Nat) : nx r (i + r.length) = nx r i := by unfold nx; rw [Nat.add_mod_right]
theorem nx_mod (r : List (Int × Int)) (i : Nat) : nx r (i % r.length) = nx r i := by unfold nx; rw [Nat.mod_mod]

/-- Sums, parities and finds of what is counted from 0 on. -/
def sumTo (f : Nat → Int) : Nat → Int
  | 0 => 0
  | n + 1 => sumTo f n + f n
def oddTo (f : Nat → Bool) : Nat → Bool
  | 0 => false
  | n + 1 => oddTo f n ^^ f n
theorem sumTo_ext {f g : Nat → Int} : ∀ n, (∀ i, i < n → f i = g i) → sumTo f n = sumTo g n
  | 0, _ => rfl
  | n + 1, h => by rw [sumTo, sumTo, sumTo_ext n (fun i hi => h i (by omega)), h n (by omega)]
theorem oddTo_ext {f g : Nat → Bool} : ∀ n, (∀ i, i < n → f i = g i) → oddTo f n = oddTo g n
  | 0, _ => rfl
  | n + 1, h => by rw [oddTo, oddTo, oddTo_ext n (fun i hi => h i (by omega)), h n (by omega)]
theorem sumTo_succ (f : Nat → Int) : ∀ n, sumTo (fun i => f (i + 1)) n = sumTo f n + f n - f 0
  | 0 => by simp [sumTo]
  | n + 1 => by rw [sumTo, sumTo_succ f n, sumTo]; omega
theorem oddTo_succ (f : Nat → Bool) : ∀ n, oddTo (fun i => f (i + 1)) n = ((oddTo f n ^^ f n) ^^ f 0)
  | 0 => by simp [oddTo]
  | n + 1 => by
    rw [oddTo, oddTo_succ f n, oddTo]
    cases oddTo f n <;> cases f n <;> cases f 0 <;> cases f (n + 1) <;> rfl
theorem sumTo_shift {f : Nat → Int} {n : Nat} (h : ∀ i, f (i + n) = f i) : ∀ s, sumTo (fun i => f (i + s)) n = sumTo f n
  | 0 => rfl
  | s + 1 => by
    have e := sumTo_succ (fun i => f (i + s)) n
    have e2 : (fun i => f (i + (s + 1))) = fun i => (fun j => f (j + s)) (i + 1) := by
      funext i; show f (i + (s + 1)) = f (i + 1 + s); congr 1; omega
    rw [e2, e, sumTo_shift h s]
    have : f (n + s) = f (0 + s) := by rw [show n + s = (0 + s) + n by omega, h]
    simp only [this]
    omega
theorem oddTo_shift {f : Nat → Bool} {n : Nat} (h : ∀ i, f (i + n) = f i) : ∀ s, oddTo (fun i => f (i + s)) n = oddTo f n
  | 0 => rfl
  | s + 1 => by
    have e := oddTo_succ (fun i => f (i + s)) n
    have e2 : (fun i => f (i + (s + 1))) = fun i => (fun j => f (j + s)) (i + 1) := by
      funext i; show f (i + (s + 1)) = f (i + 1 + s); congr 1; omega
    rw [e2, e, oddTo_shift h s]
    have : f (n + s) = f (0 + s) := by rw [show n + s = (0 + s) + n by omega, h]
    simp only [this]
    cases oddTo f n <;> cases f (0 + s) <;> rfl
theorem sumTo_neg (f : Nat → Int) : ∀ n, sumTo (fun i => -f i) n = -sumTo f n
  | 0 => rfl
  | n + 1 => by rw [sumTo, sumTo, sumTo_neg f n]; omega
theorem sumTo_add (f g : Nat → Int) : ∀ n, sumTo (fun i => f i + g i) n = sumTo f n + sumTo g n
  | 0 => rfl
  | n + 1 => by rw [sumTo, sumTo, sumTo, sumTo_add f g n]; omega
/-- The sum the other way round. -/
theorem sumTo_rev (f : Nat → Int) : ∀ n, sumTo (fun i => f (n - 1 - i)) n = sumTo f n
  | 0 => rfl
  | n + 1 => by
    have e := sumTo_succ (fun i => f (n - i)) n
    have e2 : sumTo (fun i => f (n + 1 - 1 - i)) (n + 1) = sumTo (fun i => f (n - i)) n + f (n - n) := by
      rw [sumTo]; rfl
    have e3 : sumTo (fun i => (fun j => f (n - j)) (i + 1)) n = sumTo (fun i => f (n - 1 - i)) n :=
      sumTo_ext n fun i _ => by show f (n - (i + 1)) = f (n - 1 - i); congr 1; omega
    rw [e3, sumTo_rev f n] at e
    rw [e2, sumTo]
    simp only [Nat.sub_zero] at e
    omega
theorem sumTo_lim {f : Nat → Int} {B : Int} : ∀ n, (∀ i, i < n → -B ≤ f i ∧ f i ≤ B) → -(n * B) ≤ sumTo f n ∧ sumTo f n ≤ n * B
  | 0, _ => by simp [sumTo]
  | n + 1, h => by
    have h1 := sumTo_lim n (fun i hi => h i (by omega))
    have h2 := h n (by omega)
    have e : ((n + 1 : Nat) : Int) * B = n * B + B := by rw [Int.natCast_add, Int.add_mul]; simp
    rw [sumTo, e]
    omega

/-- Twice the area of the three that two points make with (0, 0). -/
def crs0 (a b : Int × Int) : Int := a.1 * b.2 - a.2 * b.1
theorem crs0_turn (a b : Int × Int) : crs0 b a = -crs0 a b := by unfold crs0; grind
theorem crs_crs0 (a b c : Int × Int) : crs a b c = crs0 a b + crs0 b c + crs0 c a := by unfold crs crs0; grind
theorem crs0_crs (a b : Int × Int) : crs (0, 0) a b = crs0 a b := by unfold crs crs0; grind
def area (r : List (Int × Int)) : Int := sumTo (fun i => crs0 (nx r i) (nx r (i + 1))) r.length
/-- Whether a way to the right of a point is cut by a stretch: counted at its lower end, not at its upper one. -/
def cutB (a b p : Int × Int) : Bool := if b.2 < a.2 then decide (b.2 ≤ p.2 ∧ p.2 < a.2 ∧ 0 < crs b a p) else decide (a.2 ≤ p.2 ∧ p.2 < b.2 ∧ 0 < crs a b p)
def onRim (r : List (Int × Int)) (p : Int × Int) : Prop := ∃ i, i < r.length ∧ OnS (nx r i) (nx r (i + 1)) p
open Classical in
noncomputable def side (r : List (Int × Int)) (p : Int × Int) : Int := if onRim r p then 0 else if oddTo (fun i => cutB (nx r i) (nx r (i + 1)) p) r.length then 1 else -1
/-- Two edges that follow one another. -/
def adj (n i j : Nat) : Prop := (i + 1) % n = j % n ∨ (j + 1) % n = i % n
instance (n i j : Nat) : Decidable (adj n i j) := by unfold adj; exact inferInstance
/-- Corners and edges as a sound ring has them. -/
def Apart (r : List (Int × Int)) (i j : Nat) : Prop := nx r i ≠ nx r j ∧ (adj r.length i j → meet (nx r i) (nx r (i + 1)) (nx r j) (nx r (j + 1)) = 1) ∧ (¬ adj r.length i j → meet (nx r i) (nx r (i + 1)) (nx r j) (nx r (j + 1)) = 0)
def Sound (r : List (Int × Int)) : Prop := 3 ≤ r.length ∧ 0 < area r ∧ ∀ i j, i % r.length ≠ j % r.length → Apart r i j
theorem adj_comm {n i j : Nat} : adj n i j ↔ adj n j i := Or.comm
theorem apart_comm {r : List (Int × Int)} {i j : Nat} (h : Apart r i j) : Apart r j i := by
  refine ⟨fun e => h.1 e.symm, fun e => ?_, fun e => ?_⟩
  · rw [← meet_swap, h.2.1 (adj_comm.1 e)]
  · rw [← meet_swap, h.2.2 (fun x => e (adj_comm.1 x))]
theorem apart_of {r : List (Int × Int)} {i j i' j' : Nat} (hi : i % r.length = i' % r.length) (hj : j % r.length = j' % r.length) (h : Apart r i j) : Apart r i' j' := by
  have e : ∀ {x y : Nat}, x % r.length = y % r.length → nx r x = nx r y := fun {x y} h => by unfold nx; rw [h]
  have e1 : ∀ {x y : Nat}, x % r.length = y % r.length → (x + 1) % r.length = (y + 1) % r.length := fun {x y} h => by rw [← Nat.mod_add_mod, h, Nat.mod_add_mod]
  unfold Apart adj at *
  rw [← e hi, ← e hj, ← e (e1 hi), ← e (e1 hj), ← hi, ← hj, ← e1 hi, ← e1 hj]
  exact h
/-- What a program looks at: each two corners, the one with the less number first. -/
theorem sound_iff {r : List (Int × Int)} : Sound r ↔ 3 ≤ r.length ∧ 0 < area r ∧ ∀ i j, i < j → j < r.length → Apart r i j := by
  constructor
  · rintro ⟨h1, h2, h3⟩
    refine ⟨h1, h2, fun i j hij hj => h3 i j ?_⟩
    rw [Nat.mod_eq_of_lt hj, Nat.mod_eq_of_lt (by omega)]
    omega
  · rintro ⟨h1, h2, h3⟩
    refine ⟨h1, h2, fun i j hij => ?_⟩
    have hi := Nat.mod_lt i (show 0 < r.length by omega)
    have hj := Nat.mod_lt j (show 0 < r.length by omega)
    refine apart_of (i := i % r.length) (j := j % r.length) (Nat.mod_mod _ _) (Nat.mod_mod _ _) ?_
    rcases Nat.lt_or_gt_of_ne hij with h | h
    · exact h3 _ _ h hj
    · exact apart_comm (h3 _ _ h hi)
theorem adj_lt {n i j : Nat} (hn : 3 ≤ n) (hij : i < j) (hj : j < n) : adj n i j ↔ j = i + 1 ∨ (i = 0 ∧ j = n - 1) := by
  unfold adj
  rw [Nat.mod_eq_of_lt hj, Nat.mod_eq_of_lt (show i < n by omega), Nat.mod_eq_of_lt (show i + 1 < n by omega)]
  by_cases h : j + 1 < n
  · rw [Nat.mod_eq_of_lt h]; omega
  · have : j + 1 = n := by omega
    rw [this, Nat.mod_self]; omega

theorem mod_add_iff (x y k n : Nat) : (x + k) % n = (y + k) % n ↔ x % n = y % n := by
  have h := Int.emod_add_cancel_right (m := (x : Int)) (n := (n : Int)) (k := (y : Int)) (k : Int)
  rw [← Int.natCast_add, ← Int.natCast_add, ← Int.natCast_emod, ← Int.natCast_emod, ← Int.natCast_emod, ← Int.natCast_emod, Int.natCast_inj, Int.natCast_inj] at h
  exact h
theorem ex_per {P : Nat → Prop} {n : Nat} (hn : 0 < n) (h : ∀ i j, i % n = j % n → (P i ↔ P j)) : (∃ i, i < n ∧ P i) ↔ ∃ i, P i :=
  ⟨fun ⟨i, _, hi⟩ => ⟨i, hi⟩, fun ⟨i, hi⟩ => ⟨i % n, Nat.mod_lt _ hn, (h (i % n) i (Nat.mod_mod _ _)).2 hi⟩⟩
/-- Any number again, by a shift that comes round. -/
theorem round_mod (i k n : Nat) (hn : 0 < n) : (i + (n - 1) * k + k) % n = i % n := by
  have : i + (n - 1) * k + k = i + n * k := by
    obtain ⟨m, rfl⟩ : ∃ m, n = m + 1 := ⟨n - 1, by omega⟩
    rw [Nat.add_sub_cancel, Nat.succ_mul]; omega
  rw [this, Nat.add_mul_mod_self_left]
/-- A ring that begins elsewhere. -/
theorem begins {r s : List (Int × Int)} (k : Nat) (hl : s.length = r.length) (hs : ∀ i, nx s i = nx r (i + k)) : area s = area r ∧ (Sound s ↔ Sound r) ∧ ∀ p, side s p = side r p := by
  have hper : ∀ i, nx r (i + r.length) = nx r i := nx_per r
  have hper1 : ∀ i, nx r (i + r.length + 1) = nx r (i + 1) := fun i => by rw [show i + r.length + 1 = i + 1 + r.length by omega, hper]
  have hnx : ∀ {x y : Nat}, x % r.length = y % r.length → nx r x = nx r y := fun {x y} h => by unfold nx; rw [h]
  have hnx1 : ∀ {x y : Nat}, x % r.length = y % r.length → nx r (x + 1) = nx r (y + 1) := fun {x y} h => hnx (by rw [← Nat.mod_add_mod, h, Nat.mod_add_mod])
  have hs1 : ∀ i, nx s (i + 1) = nx r (i + k + 1) := fun i => by rw [hs, show i + 1 + k = i + k + 1 by omega]
  have ha : area s = area r := by
    unfold area
    rw [hl]
    have := sumTo_shift (f := fun i => crs0 (nx r i) (nx r (i + 1))) (n := r.length) (fun i => by simp only [hper, hper1]) k
    rw [← this]
    exact sumTo_ext _ fun i _ => by rw [hs, hs1]
  have hadj : ∀ i j, adj r.length (i + k) (j + k) ↔ adj r.length i j := by
    intro i j
    unfold adj
    rw [show i + k + 1 = i + 1 + k by omega, show j + k + 1 = j + 1 + k by omega, mod_add_iff, mod_add_iff]
  have hap : ∀ i j, Apart s i j ↔ Apart r (i + k) (j + k) := by
    intro i j
    unfold Apart
    rw [hs, hs, hs1, hs1, hl, hadj]
  refine ⟨ha, ?_, ?_⟩
  · unfold Sound
    rw [hl, ha]
    constructor
    · rintro ⟨h1, h2, h3⟩
      refine ⟨h1, h2, fun i j hij => ?_⟩
      have e1 := round_mod i k r.length (by omega)
      have e2 := round_mod j k r.length (by omega)
      refine apart_of e1 e2 ((hap _ _).1 (h3 _ _ fun e => hij ?_))
      rw [← e1, ← e2]
      exact (mod_add_iff _ _ _ _).2 e
    · rintro ⟨h1, h2, h3⟩
      exact ⟨h1, h2, fun i j hij => (hap i j).2 (h3 _ _ fun e => hij ((mod_add_iff _ _ _ _).1 e))⟩
  · intro p
    have ho : onRim s p ↔ onRim r p := by
      unfold onRim
      rw [hl]
      by_cases h0 : r.length = 0
      · rw [h0]; simp
      · have hn : 0 < r.length := by omega
        rw [ex_per (P := fun i => OnS (nx s i) (nx s (i + 1)) p) hn (fun i j e => by
            have e' := (mod_add_iff i j k r.length).2 e
            rw [hs1, hs1, hs i, hs j, hnx e', hnx1 e']), ex_per (P := fun i => OnS (nx r i) (nx r (i + 1)) p) hn (fun i j e => by simp only [hnx e, hnx1 e])]
        constructor
        · rintro ⟨i, hi⟩
          exact ⟨i + k, by rw [hs, hs1] at hi; exact hi⟩
        · rintro ⟨i, hi⟩
          refine ⟨i + (r.length - 1) * k, ?_⟩
          have e := round_mod i k r.length hn
          rw [hs, hs1, hnx e, hnx1 e]
          exact hi
    have hd : oddTo (fun i => cutB (nx s i) (nx s (i + 1)) p) s.length = oddTo (fun i => cutB (nx r i) (nx r (i + 1)) p) r.length := by
      rw [hl]
      have := oddTo_shift (f := fun i => cutB (nx r i) (nx r (i + 1)) p) (n := r.length) (fun i => by simp only [hper, hper1]) k
      rw [← this]
      exact oddTo_ext _ fun i _ => by rw [hs, hs1]
    unfold side
    rw [hd]
    by_cases h : onRim r p
    · rw [if_pos (ho.2 h), if_pos h]
    · rw [if_neg (fun e => h (ho.1 e)), if_neg h]

/-- A ring the other way round. -/
theorem area_turned {r s : List (Int × Int)} (hl : s.length = r.length) (hs : ∀ i, i ≤ r.length → nx s i = nx r (2 * r.length - 1 - i)) : area s = -area r := by
  by_cases h0 : r.length = 0
  · unfold area; rw [hl, h0]; rfl
  have hper : ∀ i, nx r (i + r.length) = nx r i := nx_per r
  unfold area
  rw [hl]
  have h1 : sumTo (fun i => crs0 (nx s i) (nx s (i + 1))) r.length = sumTo (fun i => -crs0 (nx r (r.length - 1 - i + (r.length - 1))) (nx r (r.length - 1 - i + (r.length - 1) + 1))) r.length := by
    refine sumTo_ext _ fun i hi => ?_
    rw [hs i (by omega), hs (i + 1) (by omega), ← crs0_turn]
    congr 2 <;> omega
  rw [h1, sumTo_neg]
  congr 1
  rw [sumTo_rev (fun i => crs0 (nx r (i + (r.length - 1))) (nx r (i + (r.length - 1) + 1))) r.length]
  exact sumTo_shift (f := fun i => crs0 (nx r i) (nx r (i + 1))) (fun i => by
    simp only [hper]
    rw [show i + r.length + 1 = i + 1 + r.length by omega, hper]) (r.length - 1)
end Go.Proofs.Ytkkdjbmdfpmkpaa
