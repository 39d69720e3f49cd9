/- Plain facts on points within the limits of Good. No program is named here. -/
import Derived.Test.YtkkdjbmdfpmkpaaMeet
namespace Go.Proofs.Ytkkdjbmdfpmkpaa

/-- Within the limits. -/
def Gd (p : Int × Int) : Prop := -1073741824 ≤ p.1 ∧ p.1 ≤ 1073741824 ∧ -1073741824 ≤ p.2 ∧ p.2 ≤ 1073741824
instance (p : Int × Int) : Decidable (Gd p) := by unfold Gd; exact inferInstance
def gd (p : Int × Int) : Bool := decide (Gd p)
def gdL (ps : List (Int × Int)) : Bool := ps.all gd
def sgn (n : Int) : Int := if n < 0 then -1 else if n = 0 then 0 else 1
theorem sgn_bd (n : Int) : -1 ≤ sgn n ∧ sgn n ≤ 1 := by unfold sgn; split <;> (try split) <;> omega
theorem sgn_neg (n : Int) : sgn (-n) = -sgn n := by unfold sgn; split <;> split <;> (try split) <;> (try split) <;> omega
theorem sgn_lt {n : Int} : sgn n < 0 ↔ n < 0 := by unfold sgn; split <;> (try split) <;> omega
theorem sgn_gt {n : Int} : 0 < sgn n ↔ 0 < n := by unfold sgn; split <;> (try split) <;> omega
theorem sgn_zero {n : Int} : sgn n = 0 ↔ n = 0 := by unfold sgn; split <;> (try split) <;> omega
theorem sgn_mul {a b : Int} : sgn a * sgn b < 0 ↔ a * b < 0 := by
  constructor
  · intro h
    rcases mul_signs h with ⟨h1, h2⟩ | ⟨h1, h2⟩
    · exact mul_of (Or.inl ⟨sgn_lt.1 h1, sgn_gt.1 h2⟩)
    · exact mul_of (Or.inr ⟨sgn_gt.1 h1, sgn_lt.1 h2⟩)
  · intro h
    rcases mul_signs h with ⟨h1, h2⟩ | ⟨h1, h2⟩
    · exact mul_of (Or.inl ⟨sgn_lt.2 h1, sgn_gt.2 h2⟩)
    · exact mul_of (Or.inr ⟨sgn_gt.2 h1, sgn_lt.2 h2⟩)
theorem cmp_sgn {n : Int} (h : InR n) : cmp (hiOf n) (loOf n) 0 0 = sgn n := by
  have w0 : Wf 0 0 := by unfold Wf; omega
  rw [cmp_val (wf_of h) w0, val_of]
  have hz : val 0 0 = 0 := rfl
  rw [hz]
  unfold sgn
  rfl

/-- A product of two, each within a limit. -/
theorem mul_lim {x y P Q : Int} (hP : -P ≤ x ∧ x ≤ P) (hQ : -Q ≤ y ∧ y ≤ Q) : -(P * Q) ≤ x * y ∧ x * y ≤ P * Q := by
  have e : (x * y).natAbs ≤ P.toNat * Q.toNat := by
    rw [Int.natAbs_mul]; exact Nat.mul_le_mul (by omega) (by omega)
  have e2 : ((P.toNat * Q.toNat : Nat) : Int) = P * Q := by
    rw [Int.natCast_mul, Int.toNat_of_nonneg (by omega), Int.toNat_of_nonneg (by omega)]
  omega
theorem par_lim {u t v s M : Int} (h1 : 0 ≤ u) (h2 : 0 ≤ t) (hM : u + t ≤ M) (hv : -M ≤ v ∧ v ≤ M) (hs : -M ≤ s ∧ s ≤ M) : -(M * M) ≤ u * v + t * s ∧ u * v + t * s ≤ M * M := by
  have a1 := Int.mul_le_mul_of_nonneg_left hv.2 h1
  have a2 := Int.mul_le_mul_of_nonneg_left hs.2 h2
  have a3 := Int.mul_le_mul_of_nonneg_left hv.1 h1
  have a4 := Int.mul_le_mul_of_nonneg_left hs.1 h2
  have a5 := Int.mul_le_mul_of_nonneg_right hM (by omega : 0 ≤ M)
  rw [Int.add_mul] at a5
  rw [Int.mul_neg] at a3 a4
  omega
theorem same_lim {u t v s M : Int} (h1 : 0 ≤ u) (h2 : 0 ≤ t) (h3 : 0 ≤ v) (h4 : 0 ≤ s) (hu : u ≤ M) (ht : t ≤ M) (hv : v ≤ M) (hs : s ≤ M) : -(M * M) ≤ u * v - t * s ∧ u * v - t * s ≤ M * M := by
  have a1 := Int.mul_nonneg h1 h3
  have a2 := Int.mul_nonneg h2 h4
  have a3 := Int.mul_le_mul hu hv h3 (by omega)
  have a4 := Int.mul_le_mul ht hs h4 (by omega)
  omega
theorem crs_lim {a b c : Int × Int} (ha : Gd a) (hb : Gd b) (hc : Gd c) : -4611686018427387904 ≤ crs a b c ∧ crs a b c ≤ 4611686018427387904 := by
  unfold Gd at ha hb hc
  unfold crs
  have e : (2147483648 : Int) * 2147483648 = 4611686018427387904 := by decide
  generalize hu : b.1 - a.1 = u at *
  generalize ht : c.1 - a.1 = t at *
  generalize hv : c.2 - a.2 = v at *
  generalize hs : b.2 - a.2 = s at *
  rw [← e]
  rcases Int.le_total 0 u with u0 | u0 <;> rcases Int.le_total 0 t with t0 | t0
  · rcases Int.le_total 0 v with v0 | v0 <;> rcases Int.le_total 0 s with s0 | s0
    · have := same_lim u0 t0 v0 s0 (M := 2147483648) (by omega) (by omega) (by omega) (by omega)
      rw [Int.mul_comm s t]; omega
    · have := par_lim v0 (show 0 ≤ -s by omega) (M := 2147483648) (v := u) (s := t) (by omega) (by omega) (by omega)
      rw [Int.mul_comm u v]; rw [Int.neg_mul] at this; omega
    · have := par_lim s0 (show 0 ≤ -v by omega) (M := 2147483648) (v := t) (s := u) (by omega) (by omega) (by omega)
      rw [Int.mul_comm u v]; rw [Int.neg_mul] at this; omega
    · have := same_lim u0 t0 (show 0 ≤ -v by omega) (show 0 ≤ -s by omega) (M := 2147483648) (by omega) (by omega) (by omega) (by omega)
      rw [Int.mul_neg, Int.mul_neg] at this
      rw [Int.mul_comm s t]; omega
  · have := par_lim u0 (show 0 ≤ -t by omega) (M := 2147483648) (v := v) (s := s) (by omega) (by omega) (by omega)
    rw [Int.neg_mul] at this; rw [Int.mul_comm s t]; omega
  · have := par_lim t0 (show 0 ≤ -u by omega) (M := 2147483648) (v := s) (s := v) (by omega) (by omega) (by omega)
    rw [Int.neg_mul] at this; rw [Int.mul_comm s t]; omega
  · rcases Int.le_total 0 v with v0 | v0 <;> rcases Int.le_total 0 s with s0 | s0
    · have := same_lim (show 0 ≤ -u by omega) (show 0 ≤ -t by omega) v0 s0 (M := 2147483648) (by omega) (by omega) (by omega) (by omega)
      rw [Int.neg_mul, Int.neg_mul] at this
      rw [Int.mul_comm s t]; omega
    · have := par_lim v0 (show 0 ≤ -s by omega) (M := 2147483648) (v := u) (s := t) (by omega) (by omega) (by omega)
      rw [Int.mul_comm u v]; rw [Int.neg_mul] at this; omega
    · have := par_lim s0 (show 0 ≤ -v by omega) (M := 2147483648) (v := t) (s := u) (by omega) (by omega) (by omega)
      rw [Int.mul_comm u v]; rw [Int.neg_mul] at this; omega
    · have := same_lim (show 0 ≤ -u by omega) (show 0 ≤ -t by omega) (show 0 ≤ -v by omega) (show 0 ≤ -s by omega) (M := 2147483648) (by omega) (by omega) (by omega) (by omega)
      rw [Int.neg_mul_neg, Int.neg_mul_neg] at this
      rw [Int.mul_comm s t]; omega
theorem crs_inR {a b c : Int × Int} (ha : Gd a) (hb : Gd b) (hc : Gd c) : InR (crs a b c) := by
  have := crs_lim ha hb hc
  unfold InR; omega
/-- The two products of a cross, each within 63 bits. -/
theorem crs_mul {a b c : Int × Int} (ha : Gd a) (hb : Gd b) (hc : Gd c) : -4611686018427387904 ≤ (b.1 - a.1) * (c.2 - a.2) ∧ (b.1 - a.1) * (c.2 - a.2) ≤ 4611686018427387904 := by
  unfold Gd at ha hb hc
  have := mul_lim (x := b.1 - a.1) (y := c.2 - a.2) (P := 2147483648) (Q := 2147483648) (by omega) (by omega)
  omega
theorem crs_mul' {a b c : Int × Int} (ha : Gd a) (hb : Gd b) (hc : Gd c) : -4611686018427387904 ≤ (b.2 - a.2) * (c.1 - a.1) ∧ (b.2 - a.2) * (c.1 - a.1) ≤ 4611686018427387904 := by
  unfold Gd at ha hb hc
  have := mul_lim (x := b.2 - a.2) (y := c.1 - a.1) (P := 2147483648) (Q := 2147483648) (by omega) (by omega)
  omega
/-- What a difference of two numbers far within the range answers. -/
theorem sub_of {x y : Int} (hx : InR x) (hy : InR y) (hf : InR (x - y)) : bH (hiOf x) (loOf x) (hiOf y) (loOf y) = hiOf (x - y) ∧ bL (hiOf x) (loOf x) (hiOf y) (loOf y) = loOf (x - y) ∧ bE (hiOf x) (loOf x) (hiOf y) (loOf y) = 0 := by
  have hm : mFit (hiOf x) (loOf x) (hiOf y) (loOf y) = true := by
    rw [minus_fit (wf_of hx) (wf_of hy), val_of, val_of]; exact decide_eq_true hf
  have hv := minus_val (wf_of hx) (wf_of hy) (by rw [val_of, val_of]; exact hf)
  rw [val_of, val_of] at hv
  have hw := val_inj minus_wf (wf_of hf) (by rw [hv, val_of])
  unfold bH bL bE
  rw [if_pos hm, if_pos hm, if_pos hm]
  exact ⟨hw.1, hw.2, rfl⟩
theorem add_of {x y : Int} (hx : InR x) (hy : InR y) (hf : InR (x + y)) : aH (hiOf x) (loOf x) (hiOf y) (loOf y) = hiOf (x + y) ∧ aL (hiOf x) (loOf x) (hiOf y) (loOf y) = loOf (x + y) ∧ aE (hiOf x) (loOf x) (hiOf y) (loOf y) = 0 := by
  have hm : pFit (hiOf x) (loOf x) (hiOf y) (loOf y) = true := by
    rw [plus_fit (wf_of hx) (wf_of hy), val_of, val_of]; exact decide_eq_true hf
  have hv := plus_val (wf_of hx) (wf_of hy) (by rw [val_of, val_of]; exact hf)
  rw [val_of, val_of] at hv
  have hw := val_inj plus_wf (wf_of hf) (by rw [hv, val_of])
  unfold aH aL aE
  rw [if_pos hm, if_pos hm, if_pos hm]
  exact ⟨hw.1, hw.2, rfl⟩
/-- The square of a stretch's length. -/
def sqr (a b : Int × Int) : Int := (b.1 - a.1) * (b.1 - a.1) + (b.2 - a.2) * (b.2 - a.2)
theorem sqr_lim {a b : Int × Int} (ha : Gd a) (hb : Gd b) : 0 ≤ sqr a b ∧ sqr a b ≤ 9223372036854775808 := by
  unfold Gd at ha hb
  have h1 := mul_lim (x := b.1 - a.1) (y := b.1 - a.1) (P := 2147483648) (Q := 2147483648) (by omega) (by omega)
  have h2 := mul_lim (x := b.2 - a.2) (y := b.2 - a.2) (P := 2147483648) (Q := 2147483648) (by omega) (by omega)
  have h3 : 0 ≤ (b.1 - a.1) * (b.1 - a.1) := by
    rcases Int.le_total 0 (b.1 - a.1) with h | h
    · exact Int.mul_nonneg h h
    · exact Int.mul_nonneg_of_nonpos_of_nonpos h h
  have h4 : 0 ≤ (b.2 - a.2) * (b.2 - a.2) := by
    rcases Int.le_total 0 (b.2 - a.2) with h | h
    · exact Int.mul_nonneg h h
    · exact Int.mul_nonneg_of_nonpos_of_nonpos h h
  unfold sqr
  omega
theorem sqr_turn (a b : Int × Int) : sqr b a = sqr a b := by unfold sqr; grind
theorem sqr_zero {a b : Int × Int} : sqr a b = 0 ↔ a = b := by
  have sq : ∀ x : Int, 0 ≤ x * x := fun x => by
    rcases Int.le_total 0 x with h | h
    · exact Int.mul_nonneg h h
    · exact Int.mul_nonneg_of_nonpos_of_nonpos h h
  constructor
  · intro h
    unfold sqr at h
    have h1 := sq (b.1 - a.1)
    have h2 := sq (b.2 - a.2)
    have e1 : (b.1 - a.1) * (b.1 - a.1) = 0 := by omega
    have e2 : (b.2 - a.2) * (b.2 - a.2) = 0 := by omega
    have f1 := or_self_iff.1 (Int.mul_eq_zero.1 e1)
    have f2 := or_self_iff.1 (Int.mul_eq_zero.1 e2)
    exact Prod.ext (by omega) (by omega)
  · rintro rfl
    unfold sqr
    rw [Int.sub_self, Int.sub_self]
    rfl
end Go.Proofs.Ytkkdjbmdfpmkpaa
