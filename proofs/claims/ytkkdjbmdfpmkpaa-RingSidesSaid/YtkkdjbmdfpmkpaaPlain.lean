/- Plain arithmetic of 128-bit integers in two words: what the sum, the difference and the order of two such numbers come to. No program is named here. -/
import Derived.Laws.Wrap64
import Derived.IntWalk
namespace Go.Proofs.Ytkkdjbmdfpmkpaa

/-- The number that two words stand for. -/
def val (h l : Int) : Int := h * 18446744073709551616 + l
/-- The two words of a number. -/
def hiOf (n : Int) : Int := n / 18446744073709551616
def loOf (n : Int) : Int := n % 18446744073709551616
def Wf (h l : Int) : Prop := -9223372036854775808 ≤ h ∧ h ≤ 9223372036854775807 ∧ 0 ≤ l ∧ l ≤ 18446744073709551615
/-- A number of 128 bits. -/
def InR (n : Int) : Prop := -170141183460469231731687303715884105728 ≤ n ∧ n ≤ 170141183460469231731687303715884105727
instance (n : Int) : Decidable (InR n) := by unfold InR; exact inferInstance

def asum (x y c : Int) : Int := (x + y + c) % 18446744073709551616
def acar (x y c : Int) : Int := (x + y + c) / 18446744073709551616
def sdif (x y b : Int) : Int := (x - y - b) % 18446744073709551616
def sbor (x y b : Int) : Int := if x < y + b then 1 else 0

/-- A number of 64 bits as a word. -/
def uw (h : Int) : Int := h % 18446744073709551616
/-- A word as a number of 64 bits. -/
def sw (n : Int) : Int := (n + 9223372036854775808) % 18446744073709551616 - 9223372036854775808

def pLo (l l' : Int) : Int := asum l l' 0
def pHi (h l h' l' : Int) : Int := sw (asum (uw h) (uw h') (acar l l' 0))
def ng (h : Int) : Bool := decide (h < 0)
def pFit (h l h' l' : Int) : Bool := !(ng h == ng h') || (ng h == ng (pHi h l h' l'))
def mLo (l l' : Int) : Int := sdif l l' 0
def mHi (h l h' l' : Int) : Int := sw (sdif (uw h) (uw h') (sbor l l' 0))
def mFit (h l h' l' : Int) : Bool := (ng h == ng h') || (ng h == ng (mHi h l h' l'))

theorem wf_val {h l : Int} (w : Wf h l) : InR (val h l) := by unfold Wf at w; unfold InR val; omega
theorem val_hi {h l : Int} (w : Wf h l) : hiOf (val h l) = h := by unfold Wf at w; unfold hiOf val; omega
theorem val_lo {h l : Int} (w : Wf h l) : loOf (val h l) = l := by unfold Wf at w; unfold loOf val; omega
theorem val_of (n : Int) : val (hiOf n) (loOf n) = n := by unfold val hiOf loOf; omega
theorem wf_of {n : Int} (w : InR n) : Wf (hiOf n) (loOf n) := by unfold InR at w; unfold Wf hiOf loOf; omega
theorem val_inj {h l h' l' : Int} (w : Wf h l) (w' : Wf h' l') (e : val h l = val h' l') : h = h' ∧ l = l' := by
  unfold Wf at w w'; unfold val at e; omega

theorem plus_wf {h l h' l' : Int} : Wf (pHi h l h' l') (pLo l l') := by unfold Wf pHi pLo sw asum; omega
theorem plus_fit {h l h' l' : Int} (w : Wf h l) (w' : Wf h' l') : pFit h l h' l' = decide (InR (val h l + val h' l')) := by
  unfold Wf at w w'
  rw [Bool.eq_iff_iff, decide_eq_true_iff]
  have e : pFit h l h' l' = true ↔ (¬ (h < 0 ↔ h' < 0) ∨ (h < 0 ↔ pHi h l h' l' < 0)) := by
    unfold pFit ng; simp only [Bool.or_eq_true, Bool.not_eq_true', beq_eq_false_iff_ne, beq_iff_eq, ne_eq, decide_eq_decide]
  rw [e]
  unfold InR val pHi sw asum uw acar
  omega
theorem plus_val {h l h' l' : Int} (_w : Wf h l) (_w' : Wf h' l') (f : InR (val h l + val h' l')) : val (pHi h l h' l') (pLo l l') = val h l + val h' l' := by
  unfold InR val at f
  unfold val pHi pLo sw asum uw acar
  omega
theorem minus_wf {h l h' l' : Int} : Wf (mHi h l h' l') (mLo l l') := by unfold Wf mHi mLo sw sdif; omega
theorem minus_fit {h l h' l' : Int} (w : Wf h l) (w' : Wf h' l') : mFit h l h' l' = decide (InR (val h l - val h' l')) := by
  unfold Wf at w w'
  rw [Bool.eq_iff_iff, decide_eq_true_iff]
  have e : mFit h l h' l' = true ↔ ((h < 0 ↔ h' < 0) ∨ (h < 0 ↔ mHi h l h' l' < 0)) := by
    unfold mFit ng; simp only [Bool.or_eq_true, beq_iff_eq, decide_eq_decide]
  rw [e]
  unfold InR val mHi sw sdif uw sbor
  split <;> omega
theorem minus_val {h l h' l' : Int} (w : Wf h l) (w' : Wf h' l') (f : InR (val h l - val h' l')) : val (mHi h l h' l') (mLo l l') = val h l - val h' l' := by
  unfold Wf at w w'
  unfold InR val at f
  unfold val mHi mLo sw sdif uw sbor
  split <;> omega

/-- What comparing answers. -/
def cmp (h l h' l' : Int) : Int := if h = h' ∧ l = l' then 0 else if h < h' ∨ (h = h' ∧ l < l') then -1 else 1
theorem cmp_val {h l h' l' : Int} (w : Wf h l) (w' : Wf h' l') : cmp h l h' l' = if val h l < val h' l' then -1 else if val h l = val h' l' then 0 else 1 := by
  unfold Wf at w w'
  unfold cmp val
  split <;> split <;> (try split) <;> (try split) <;> omega

/-- The product of two words, in two words. -/
def mulHi (x y : Int) : Int := x * y / 18446744073709551616
def mulLo (x y : Int) : Int := x * y % 18446744073709551616
theorem mul_pp (a b : Int) (ha : 0 ≤ a) (ha2 : a ≤ 9223372036854775807) (hb : 0 ≤ b) (hb2 : b ≤ 9223372036854775807) : sw (mulHi (uw a) (uw b)) = hiOf (a * b) ∧ mulLo (uw a) (uw b) = loOf (a * b) := by
  have ea : uw a = a := by unfold uw; omega
  have eb : uw b = b := by unfold uw; omega
  rw [ea, eb]
  have h0 : 0 ≤ a * b := Int.mul_nonneg ha hb
  have h1 : a * b ≤ 9223372036854775807 * 9223372036854775807 := Int.mul_le_mul ha2 hb2 hb (by omega)
  unfold mulHi mulLo hiOf loOf sw
  generalize a * b = p at *
  omega
theorem mul_np (a b : Int) (ha : a < 0) (ha2 : -9223372036854775808 ≤ a) (hb : 0 ≤ b) (hb2 : b ≤ 9223372036854775807) : sw (uw (mulHi (uw a) (uw b) - uw b)) = hiOf (a * b) ∧ mulLo (uw a) (uw b) = loOf (a * b) := by
  have ea : uw a = a + 18446744073709551616 := by unfold uw; omega
  have eb : uw b = b := by unfold uw; omega
  rw [ea, eb]
  have h0 : (-a) * b ≤ 9223372036854775808 * 9223372036854775807 := Int.mul_le_mul (by omega) hb2 hb (by omega)
  have h1 : 0 ≤ (-a) * b := Int.mul_nonneg (by omega) hb
  rw [Int.neg_mul] at h0 h1
  have e : (a + 18446744073709551616) * b = a * b + 18446744073709551616 * b := by rw [Int.add_mul]
  unfold mulHi mulLo
  rw [e]
  unfold hiOf loOf sw uw
  generalize a * b = p at *
  omega
theorem mul_pn (a b : Int) (ha : 0 ≤ a) (ha2 : a ≤ 9223372036854775807) (hb : b < 0) (hb2 : -9223372036854775808 ≤ b) : sw (uw (mulHi (uw a) (uw b) - uw a)) = hiOf (a * b) ∧ mulLo (uw a) (uw b) = loOf (a * b) := by
  have h := mul_np b a hb hb2 ha ha2
  rw [Int.mul_comm a b, show mulHi (uw a) (uw b) = mulHi (uw b) (uw a) from by unfold mulHi; rw [Int.mul_comm], show mulLo (uw a) (uw b) = mulLo (uw b) (uw a) from by unfold mulLo; rw [Int.mul_comm]]
  exact h
theorem mul_nn (a b : Int) (ha : a < 0) (ha2 : -9223372036854775808 ≤ a) (hb : b < 0) (hb2 : -9223372036854775808 ≤ b) : sw (uw (uw (mulHi (uw a) (uw b) - uw b) - uw a)) = hiOf (a * b) ∧ mulLo (uw a) (uw b) = loOf (a * b) := by
  have ea : uw a = a + 18446744073709551616 := by unfold uw; omega
  have eb : uw b = b + 18446744073709551616 := by unfold uw; omega
  rw [ea, eb]
  have h0 : (-a) * (-b) ≤ 9223372036854775808 * 9223372036854775808 := Int.mul_le_mul (by omega) (by omega) (by omega) (by omega)
  have h1 : 0 ≤ (-a) * (-b) := Int.mul_nonneg (by omega) (by omega)
  rw [Int.neg_mul_neg] at h0 h1
  have e : (a + 18446744073709551616) * (b + 18446744073709551616) = a * b + 18446744073709551616 * a + 18446744073709551616 * b + 18446744073709551616 * 18446744073709551616 := by grind
  unfold mulHi mulLo
  rw [e]
  unfold hiOf loOf sw uw
  generalize a * b = p at *
  omega
theorem mul_inR (a b : Int) (ha1 : -9223372036854775808 ≤ a) (ha2 : a ≤ 9223372036854775807) (hb1 : -9223372036854775808 ≤ b) (hb2 : b ≤ 9223372036854775807) : InR (a * b) := by
  have e : (a * b).natAbs ≤ 9223372036854775808 * 9223372036854775808 := by
    rw [Int.natAbs_mul]; exact Nat.mul_le_mul (by omega) (by omega)
  unfold InR
  omega

/-- A sum from the left, none if one on the way is none. -/
def totFrom : List (Int × Int) → Int × Int → Option (Int × Int)
  | [], s => some s
  | p :: ps, s => if pFit s.1 s.2 p.1 p.2 = true then totFrom ps (pHi s.1 s.2 p.1 p.2, pLo s.2 p.2) else none
def tH (ps : List (Int × Int)) : Int := match totFrom ps (0, 0) with | some s => s.1 | none => 0
def tL (ps : List (Int × Int)) : Int := match totFrom ps (0, 0) with | some s => s.2 | none => 0
def tE (ps : List (Int × Int)) : Int := match totFrom ps (0, 0) with | some _ => 0 | none => 3

/-- What the sum of two answers: two words and an error's number. -/
def aH (h l h' l' : Int) : Int := if pFit h l h' l' = true then pHi h l h' l' else 0
def aL (h l h' l' : Int) : Int := if pFit h l h' l' = true then pLo l l' else 0
def aE (h l h' l' : Int) : Int := if pFit h l h' l' = true then 0 else 3
def bH (h l h' l' : Int) : Int := if mFit h l h' l' = true then mHi h l h' l' else 0
def bL (h l h' l' : Int) : Int := if mFit h l h' l' = true then mLo l l' else 0
def bE (h l h' l' : Int) : Int := if mFit h l h' l' = true then 0 else 3
theorem plus_zero {h l : Int} (w : Wf h l) : pFit 0 0 h l = true ∧ pHi 0 0 h l = h ∧ pLo 0 l = l := by
  have wz : Wf 0 0 := by unfold Wf; omega
  have hz : val 0 0 + val h l = val h l := by unfold val; omega
  have hr : InR (val 0 0 + val h l) := by rw [hz]; exact wf_val w
  have hf := plus_fit wz w
  rw [decide_eq_true hr] at hf
  have hv := plus_val wz w hr
  rw [hz] at hv
  exact ⟨hf, val_inj plus_wf w hv⟩
theorem tot_two {h l h' l' : Int} (w : Wf h l) : totFrom [(h, l), (h', l')] (0, 0) = if pFit h l h' l' = true then some (pHi h l h' l', pLo l l') else none := by
  obtain ⟨hf, e1, e2⟩ := plus_zero w
  simp only [totFrom, hf, if_true, e1, e2]
theorem tot_two_H {h l h' l' : Int} (w : Wf h l) : tH [(h, l), (h', l')] = aH h l h' l' ∧ tL [(h, l), (h', l')] = aL h l h' l' ∧ tE [(h, l), (h', l')] = aE h l h' l' := by
  unfold tH tL tE aH aL aE
  rw [tot_two w]
  by_cases hf : pFit h l h' l' = true <;> simp [hf]
def blw (h l h' l' : Int) : Bool := if h = h' then decide (l < l') else decide (h < h')
theorem cmp_of (h l h' l' : Int) : cmp h l h' l' = if h = h' ∧ l = l' then 0 else if blw h l h' l' = true then -1 else 1 := by
  unfold cmp blw
  split
  · rfl
  · congr 1
    by_cases e : h = h'
    · subst e; simp
    · simp [e]
end Go.Proofs.Ytkkdjbmdfpmkpaa
