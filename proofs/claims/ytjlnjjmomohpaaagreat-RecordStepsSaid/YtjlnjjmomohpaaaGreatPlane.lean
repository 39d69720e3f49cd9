/- Plain arithmetic of 128-bit integers in two words: what the sum, the difference and the order of two such numbers come to. No program is named here. -/
import Derived.Laws.Wrap64
import Derived.IntWalk
namespace Go.Proofs.YtjlnjjmomohpaaaGreat

def val (h l : Int) : Int := h * 18446744073709551616 + l
def hiOf (n : Int) : Int := n / 18446744073709551616
def loOf (n : Int) : Int := n % 18446744073709551616
def Wf (h l : Int) : Prop := -9223372036854775808 ≤ h ∧ h ≤ 9223372036854775807 ∧ 0 ≤ l ∧ l ≤ 18446744073709551615
def InR (n : Int) : Prop := -170141183460469231731687303715884105728 ≤ n ∧ n ≤ 170141183460469231731687303715884105727
instance (n : Int) : Decidable (InR n) := by unfold InR; exact inferInstance

def asum (x y c : Int) : Int := (x + y + c) % 18446744073709551616
def acar (x y c : Int) : Int := (x + y + c) / 18446744073709551616
def sdif (x y b : Int) : Int := (x - y - b) % 18446744073709551616
def sbor (x y b : Int) : Int := if x < y + b then 1 else 0

def uw (h : Int) : Int := h % 18446744073709551616
def sw (n : Int) : Int := (n + 9223372036854775808) % 18446744073709551616 - 9223372036854775808

def pLo (l l' : Int) : Int := asum l l' 0
def pHi (h l h' l' : Int) : Int := sw (asum (uw h) (uw h') (acar l l' 0))
def ng (h : Int) : Bool := decide (h < 0)
def pFit (h l h' l' : Int) : Bool := !(ng h == ng h') || (ng h == ng (pHi h l h' l'))
def mLo (l l' : Int) : Int := sdif l l' 0
def mHi (h l h' l' : Int) : Int := sw (sdif (uw h) (uw h') (sbor l l' 0))
def mFit (h l h' l' : Int) : Bool := (ng h == ng h') || (ng h == ng (mHi h l h' l'))

theorem wf_val {h l : Int} (w : Wf h l) : InR (val h l) := by unfold Wf at w; unfold InR val; omega
theorem val_of (n : Int) : val (hiOf n) (loOf n) = n := by unfold val hiOf loOf; omega
theorem wf_of {n : Int} (w : InR n) : Wf (hiOf n) (loOf n) := by unfold InR at w; unfold Wf hiOf loOf; omega
theorem val_inj {h l h' l' : Int} (w : Wf h l) (w' : Wf h' l') (e : val h l = val h' l') : h = h' ∧ l = l' := by
 unfold Wf at w w'; unfold val at e; omega

theorem plus_wf {h l h' l' : Int} : Wf (pHi h l h' l') (pLo l l') := by unfold Wf pHi pLo sw asum; omega
theorem plus_fit {h l h' l' : Int} (w : Wf h l) (w' : Wf h' l') : pFit h l h' l' = decide (InR (val h l + val h' l')) := by
 unfold Wf at w w'
 rw [Bool.eq_iff_iff, decide_eq_true_iff]
 have e : pFit h l h' l' = true ↔ (¬ (h < 0 ↔ h' < 0) ∨ (h < 0 ↔ pHi h l h' l' < 0)) := by
  unfold pFit ng; simp only [Bool.or_eq_true, Bool.not_eq_true', beq_eq_false_iff_ne, beq_iff_eq, ne_eq, decide_eq_decide]
 rw [e]
 unfold InR val pHi sw asum uw acar
 omega
theorem plus_val {h l h' l' : Int} (_w : Wf h l) (_w' : Wf h' l') (f : InR (val h l + val h' l')) : val (pHi h l h' l') (pLo l l') = val h l + val h' l' := by
 unfold InR val at f
 unfold val pHi pLo sw asum uw acar
 omega
theorem minus_wf {h l h' l' : Int} : Wf (mHi h l h' l') (mLo l l') := by unfold Wf mHi mLo sw sdif; omega
theorem minus_fit {h l h' l' : Int} (w : Wf h l) (w' : Wf h' l') : mFit h l h' l' = decide (InR (val h l - val h' l')) := by
 unfold Wf at w w'
 rw [Bool.eq_iff_iff, decide_eq_true_iff]
 have e : mFit h l h' l' = true ↔ ((h < 0 ↔ h' < 0) ∨ (h < 0 ↔ mHi h l h' l' < 0)) := by
  unfold mFit ng; simp only [Bool.or_eq_true, beq_iff_eq, decide_eq_decide]
 rw [e]
 unfold InR val mHi sw sdif uw sbor
 split <;> omega
theorem minus_val {h l h' l' : Int} (w : Wf h l) (w' : Wf h' l') (f : InR (val h l - val h' l')) : val (mHi h l h' l') (mLo l l') = val h l - val h' l' := by
 unfold Wf at w w'
 unfold InR val at f
 unfold val mHi mLo sw sdif uw sbor
 split <;> omega

def cmp (h l h' l' : Int) : Int := if h = h' ∧ l = l' then 0 else if h < h' ∨ (h = h' ∧ l < l') then -1 else 1
theorem cmp_val {h l h' l' : Int} (w : Wf h l) (w' : Wf h' l') : cmp h l h' l' = if val h l < val h' l' then -1 else if val h l = val h' l' then 0 else 1 := by
 unfold Wf at w w'
 unfold cmp val
 split <;> split <;> (try split) <;> (try split) <;> omega

def mulHi (x y : Int) : Int := x * y / 18446744073709551616
def mulLo (x y : Int) : Int := x * y % 18446744073709551616
theorem mul_pp (a b : Int) (ha : 0 ≤ a) (ha2 : a ≤ 9223372036854775807) (hb : 0 ≤ b) (hb2 : b ≤ 9223372036854775807) : sw (mulHi (uw a) (uw b)) = hiOf (a * b) ∧ mulLo (uw a) (uw b) = loOf (a * b) := by
 have ea : uw a = a := by unfold uw; omega
 have eb : uw b = b := by unfold uw; omega
 rw [ea, eb]
 have h0 : 0 ≤ a * b := Int.mul_nonneg ha hb
 have h1 : a * b ≤ 9223372036854775807 * 9223372036854775807 := Int.mul_le_mul ha2 hb2 hb (by omega)
 unfold mulHi mulLo hiOf loOf sw
 generalize a * b = p at *
 omega
theorem mul_np (a b : Int) (ha : a < 0) (ha2 : -9223372036854775808 ≤ a) (hb : 0 ≤ b) (hb2 : b ≤ 9223372036854775807) : sw (uw (mulHi (uw a) (uw b) - uw b)) = hiOf (a * b) ∧ mulLo (uw a) (uw b) = loOf (a * b) := by
 have ea : uw a = a + 18446744073709551616 := by unfold uw; omega
 have eb : uw b = b := by unfold uw; omega
 rw [ea, eb]
 have h0 : (-a) * b ≤ 9223372036854775808 * 9223372036854775807 := Int.mul_le_mul (by omega) hb2 hb (by omega)
 have h1 : 0 ≤ (-a) * b := Int.mul_nonneg (by omega) hb
 rw [Int.neg_mul] at h0 h1
 have e : (a + 18446744073709551616) * b = a * b + 18446744073709551616 * b := by rw [Int.add_mul]
 unfold mulHi mulLo
 rw [e]
 unfold hiOf loOf sw uw
 generalize a * b = p at *
 omega
theorem mul_pn (a b : Int) (ha : 0 ≤ a) (ha2 : a ≤ 9223372036854775807) (hb : b < 0) (hb2 : -9223372036854775808 ≤ b) : sw (uw (mulHi (uw a) (uw b) - uw a)) = hiOf (a * b) ∧ mulLo (uw a) (uw b) = loOf (a * b) := by
 have h := mul_np b a hb hb2 ha ha2
 rw [Int.mul_comm a b, show mulHi (uw a) (uw b) = mulHi (uw b) (uw a) from by unfold mulHi; rw [Int.mul_comm], show mulLo (uw a) (uw b) = mulLo (uw b) (uw a) from by unfold mulLo; rw [Int.mul_comm]]
 exact h
theorem mul_nn (a b : Int) (ha : a < 0) (ha2 : -9223372036854775808 ≤ a) (hb : b < 0) (hb2 : -9223372036854775808 ≤ b) : sw (uw (uw (mulHi (uw a) (uw b) - uw b) - uw a)) = hiOf (a * b) ∧ mulLo (uw a) (uw b) = loOf (a * b) := by
 have ea : uw a = a + 18446744073709551616 := by unfold uw; omega
 have eb : uw b = b + 18446744073709551616 := by unfold uw; omega
 rw [ea, eb]
 have h0 : (-a) * (-b) ≤ 9223372036854775808 * 9223372036854775808 := Int.mul_le_mul (by omega) (by omega) (by omega) (by omega)
 have h1 : 0 ≤ (-a) * (-b) := Int.mul_nonneg (by omega) (by omega)
 rw [Int.neg_mul_neg] at h0 h1
 have e : (a + 18446744073709551616) * (b + 18446744073709551616) = a * b + 18446744073709551616 * a + 18446744073709551616 * b + 18446744073709551616 * 18446744073709551616 := by grind
 unfold mulHi mulLo
 rw [e]
 unfold hiOf loOf sw uw
 generalize a * b = p at *
 omega
theorem mul_inR (a b : Int) (ha1 : -9223372036854775808 ≤ a) (ha2 : a ≤ 9223372036854775807) (hb1 : -9223372036854775808 ≤ b) (hb2 : b ≤ 9223372036854775807) : InR (a * b) := by
 have e : (a * b).natAbs ≤ 9223372036854775808 * 9223372036854775808 := by
  rw [Int.natAbs_mul]; exact Nat.mul_le_mul (by omega) (by omega)
 unfold InR
 omega

def totFrom : List (Int × Int) → Int × Int → Option (Int × Int)
 |[], s => some s
 |p :: ps, s => if pFit s.1 s.2 p.1 p.2 = true then totFrom ps (pHi s.1 s.2 p.1 p.2, pLo s.2 p.2) else none
def tH (ps : List (Int × Int)) : Int := match totFrom ps (0, 0) with | some s => s.1 | none => 0
def tL (ps : List (Int × Int)) : Int := match totFrom ps (0, 0) with | some s => s.2 | none => 0
def tE (ps : List (Int × Int)) : Int := match totFrom ps (0, 0) with | some _ => 0 | none => 3

def aH (h l h' l' : Int) : Int := if pFit h l h' l' = true then pHi h l h' l' else 0
def aL (h l h' l' : Int) : Int := if pFit h l h' l' = true then pLo l l' else 0
def aE (h l h' l' : Int) : Int := if pFit h l h' l' = true then 0 else 3
def bH (h l h' l' : Int) : Int := if mFit h l h' l' = true then mHi h l h' l' else 0
def bL (h l h' l' : Int) : Int := if mFit h l h' l' = true then mLo l l' else 0
def bE (h l h' l' : Int) : Int := if mFit h l h' l' = true then 0 else 3
def blw (h l h' l' : Int) : Bool := if h = h' then decide (l < l') else decide (h < h')
theorem cmp_of (h l h' l' : Int) : cmp h l h' l' = if h = h' ∧ l = l' then 0 else if blw h l h' l' = true then -1 else 1 := by
 unfold cmp blw
 split
 ·rfl
 ·congr 1
  by_cases e : h = h'
  ·subst e; simp
  ·simp [e]
end Go.Proofs.YtjlnjjmomohpaaaGreat

namespace Go.Proofs.YtjlnjjmomohpaaaGreat

def lim0 (n : Int) : Int := n % 4294967296
def lim1 (n : Int) : Int := n / 4294967296 % 4294967296
def lim2 (n : Int) : Int := n / 18446744073709551616 % 4294967296
def lim3 (n : Int) : Int := n / 79228162514264337593543950336 % 4294967296
def lim4 (n : Int) : Int := n / 340282366920938463463374607431768211456 % 4294967296
def Half (x : Int) : Prop := 0 ≤ x ∧ x ≤ 4294967295
theorem lim_half (n : Int) : Half (lim0 n) ∧ Half (lim1 n) ∧ Half (lim2 n) ∧ Half (lim3 n) ∧ Half (lim4 n) := by
 unfold Half lim0 lim1 lim2 lim3 lim4
 omega
def sm (x y c : Int) : Int := (x + y + c) % 4294967296
def cr (x y c : Int) : Int := (x + y + c) / 4294967296
def c1 (a b : Int) : Int := cr (lim0 a) (lim0 b) 0
def c2 (a b : Int) : Int := cr (lim1 a) (lim1 b) (c1 a b)
def c3 (a b : Int) : Int := cr (lim2 a) (lim2 b) (c2 a b)
def c4 (a b : Int) : Int := cr (lim3 a) (lim3 b) (c3 a b)
theorem c1_is (a b : Int) : c1 a b = (a % 4294967296 + b % 4294967296) / 4294967296 := by unfold c1 cr lim0; omega
theorem c2_is (a b : Int) : c2 a b = (a % 18446744073709551616 + b % 18446744073709551616) / 18446744073709551616 := by
 unfold c2 cr lim1; rw [c1_is]; omega
theorem c3_is (a b : Int) : c3 a b = (a % 79228162514264337593543950336 + b % 79228162514264337593543950336) / 79228162514264337593543950336 := by
 unfold c3 cr lim2; rw [c2_is]; omega
theorem c4_is (a b : Int) : c4 a b = (a % 340282366920938463463374607431768211456 + b % 340282366920938463463374607431768211456) / 340282366920938463463374607431768211456 := by
 unfold c4 cr lim3; rw [c3_is]; omega
theorem sm0 (a b : Int) : sm (lim0 a) (lim0 b) 0 = lim0 (a + b) := by unfold sm lim0; omega
theorem sm1 (a b : Int) : sm (lim1 a) (lim1 b) (c1 a b) = lim1 (a + b) := by rw [c1_is]; unfold sm lim1; omega
theorem sm2 (a b : Int) : sm (lim2 a) (lim2 b) (c2 a b) = lim2 (a + b) := by rw [c2_is]; unfold sm lim2; omega
theorem sm3 (a b : Int) : sm (lim3 a) (lim3 b) (c3 a b) = lim3 (a + b) := by rw [c3_is]; unfold sm lim3; omega
theorem sm4 (a b : Int) : sm (lim4 a) (lim4 b) (c4 a b) = lim4 (a + b) := by rw [c4_is]; unfold sm lim4; omega
theorem not0 (n : Int) : 4294967295 - lim0 n = lim0 (-n - 1) := by unfold lim0; omega
theorem not1 (n : Int) : 4294967295 - lim1 n = lim1 (-n - 1) := by unfold lim1; omega
theorem not2 (n : Int) : 4294967295 - lim2 n = lim2 (-n - 1) := by unfold lim2; omega
theorem not3 (n : Int) : 4294967295 - lim3 n = lim3 (-n - 1) := by unfold lim3; omega
theorem not4 (n : Int) : 4294967295 - lim4 n = lim4 (-n - 1) := by unfold lim4; omega
theorem val_lim {h l : Int} (w : Wf h l) : lim0 (val h l) = l % 4294967296 ∧ lim1 (val h l) = l / 4294967296 % 4294967296 ∧ lim2 (val h l) = uw h % 4294967296 ∧ lim3 (val h l) = uw h / 4294967296 % 4294967296 ∧ lim4 (val h l) = (if h < 0 then 4294967295 else 0) := by
 unfold Wf at w
 unfold lim0 lim1 lim2 lim3 lim4 val uw
 refine ⟨by omega, by omega, by omega, by omega, ?_⟩
 split <;> omega
def wHi (n : Int) : Int := sw (lim3 n * 4294967296 + lim2 n)
def wLo (n : Int) : Int := lim1 n * 4294967296 + lim0 n
def wOk (n : Int) : Bool := lim4 n == (if 2147483648 ≤ lim3 n then 4294967295 else 0)
theorem whole_ok {n : Int} (h0 : -340282366920938463463374607431768211456 ≤ n) (h1 : n < 340282366920938463463374607431768211456) : wOk n = decide (InR n) := by
 unfold wOk
 rw [Bool.eq_iff_iff, beq_iff_eq, decide_eq_true_iff]
 unfold InR lim3 lim4
 split <;> omega
theorem whole_val {n : Int} (h : InR n) : val (wHi n) (wLo n) = n := by
 unfold InR at h
 unfold val wHi wLo sw lim0 lim1 lim2 lim3
 omega
theorem whole_wf (n : Int) : Wf (wHi n) (wLo n) := by
 unfold Wf wHi wLo sw lim0 lim1
 omega
end Go.Proofs.YtjlnjjmomohpaaaGreat

namespace Go.Proofs.YtjlnjjmomohpaaaGreat

def crs (a b c : Int × Int) : Int := (b.1 - a.1) * (c.2 - a.2) - (b.2 - a.2) * (c.1 - a.1)
def btw (a b n : Int) : Prop := (a ≤ n ∧ n ≤ b) ∨ (b ≤ n ∧ n ≤ a)
def OnS (a b p : Int × Int) : Prop := crs a b p = 0 ∧ btw a.1 b.1 p.1 ∧ btw a.2 b.2 p.2
def flip (p : Int × Int) : Int × Int := (p.2, p.1)

theorem crs_turn (a b c : Int × Int) : crs b a c = -crs a b c := by unfold crs; grind
theorem crs_flip (a b c : Int × Int) : crs (flip a) (flip b) (flip c) = -crs a b c := by unfold crs flip; grind
theorem crs_aab (a b : Int × Int) : crs a a b = 0 := by unfold crs; grind
theorem crs_aba (a b : Int × Int) : crs a b a = 0 := by unfold crs; grind
theorem crs_abb (a b : Int × Int) : crs a b b = 0 := by unfold crs; grind
theorem btw_turn {a b n : Int} : btw b a n ↔ btw a b n := by unfold btw; omega
theorem on_turn {a b p : Int × Int} : OnS b a p ↔ OnS a b p := by
 unfold OnS
 rw [crs_turn a b p]
 constructor
 ·rintro ⟨h1, h2, h3⟩; exact ⟨by omega, btw_turn.1 h2, btw_turn.1 h3⟩
 ·rintro ⟨h1, h2, h3⟩; exact ⟨by omega, btw_turn.1 h2, btw_turn.1 h3⟩
theorem on_flip {a b p : Int × Int} : OnS (flip a) (flip b) (flip p) ↔ OnS a b p := by
 unfold OnS
 rw [crs_flip]
 unfold flip
 constructor
 ·rintro ⟨h1, h2, h3⟩; exact ⟨by omega, h3, h2⟩
 ·rintro ⟨h1, h2, h3⟩; exact ⟨by omega, h3, h2⟩
theorem on_left (a b : Int × Int) : OnS a b a := ⟨crs_aba a b, by unfold btw; omega, by unfold btw; omega⟩
theorem on_right (a b : Int × Int) : OnS a b b := ⟨crs_abb a b, by unfold btw; omega, by unfold btw; omega⟩

theorem on_part {a b p : Int × Int} (h : OnS a b p) (hab : a ≠ b) : ∃ N t : Int, 0 < N ∧ 0 ≤ t ∧ t ≤ N ∧ N * (p.1 - a.1) = t * (b.1 - a.1) ∧ N * (p.2 - a.2) = t * (b.2 - a.2) := by
 obtain ⟨h0, h1, h2⟩ := h
 obtain ⟨a1, a2⟩ := a
 obtain ⟨b1, b2⟩ := b
 obtain ⟨p1, p2⟩ := p
 unfold crs at h0
 unfold btw at h1 h2
 simp only at *
 by_cases hx : a1 = b1
 ·subst hx
  have hy : a2 ≠ b2 := fun e => hab (by rw [e])
  have hp : p1 = a1 := by omega
  subst hp
  rcases h2 with h2 | h2
  ·exact ⟨b2 - a2, p2 - a2, by omega, by omega, by omega, by grind, by grind⟩
  ·exact ⟨a2 - b2, a2 - p2, by omega, by omega, by omega, by grind, by grind⟩
 ·rcases h1 with h1 | h1
  ·exact ⟨b1 - a1, p1 - a1, by omega, by omega, by omega, by grind, by grind⟩
  ·exact ⟨a1 - b1, a1 - p1, by omega, by omega, by omega, by grind, by grind⟩
theorem crs_part {a b p : Int × Int} {N t : Int} (h1 : N * (p.1 - a.1) = t * (b.1 - a.1)) (h2 : N * (p.2 - a.2) = t * (b.2 - a.2)) (c d : Int × Int) : N * crs c d p = (N - t) * crs c d a + t * crs c d b := by
 unfold crs; grind
theorem crs_part2 {a b p : Int × Int} {N t : Int} (h1 : N * (p.1 - a.1) = t * (b.1 - a.1)) (h2 : N * (p.2 - a.2) = t * (b.2 - a.2)) (c : Int × Int) : N * crs a p c = t * crs a b c ∧ N * crs p b c = (N - t) * crs a b c := by
 unfold crs
 constructor <;> grind

theorem par_cross {w1 w2 r1 r2 s1 s2 : Int} (hw : w1 ≠ 0 ∨ w2 ≠ 0) (hr : w1 * r2 = w2 * r1) (hs : w1 * s2 = w2 * s1) : r1 * s2 - r2 * s1 = 0 := by
 have e1 : w1 * (r1 * s2 - r2 * s1) = 0 := by grind
 have e2 : w2 * (r1 * s2 - r2 * s1) = 0 := by grind
 rcases hw with hw | hw
 ·exact (Int.mul_eq_zero.1 e1).resolve_left hw
 ·exact (Int.mul_eq_zero.1 e2).resolve_left hw
theorem ne_parts {a b : Int × Int} (h : a ≠ b) : b.1 - a.1 ≠ 0 ∨ b.2 - a.2 ≠ 0 := by
 by_cases h1 : a.1 = b.1
 ·right
  intro h2
  exact h (Prod.ext h1 (by omega))
 ·left; omega
theorem line3 {c d x y z : Int × Int} (h : c ≠ d) (hx : crs c d x = 0) (hy : crs c d y = 0) (hz : crs c d z = 0) : crs x y z = 0 := by
 unfold crs at *
 have := par_cross (r1 := y.1 - x.1) (r2 := y.2 - x.2) (s1 := z.1 - x.1) (s2 := z.2 - x.2) (ne_parts h) (by grind) (by grind)
 omega
theorem mono {K L x y s t : Int} (hK : K ≠ 0) (h1 : K * x = L * s) (h2 : K * y = L * t) (h : btw 0 t s) : btw 0 y x := by
 have key : ∀ K L x y s t : Int, 0 < K → K * x = L * s → K * y = L * t → 0 ≤ s → s ≤ t → btw 0 y x := by
  intro K L x y s t hK h1 h2 hs ht
  rcases Int.le_total 0 L with hL | hL
  ·have a1 : 0 ≤ K * x := by rw [h1]; exact Int.mul_nonneg hL hs
   have a2 : K * x ≤ K * y := by rw [h1, h2]; exact Int.mul_le_mul_of_nonneg_left ht hL
   left
   exact ⟨by by_cases hx : 0 ≤ x; exact hx; exact absurd (Int.mul_neg_of_pos_of_neg hK (by omega : x < 0)) (by omega), Int.le_of_mul_le_mul_left a2 hK⟩
  ·have hL' : 0 ≤ -L := by omega
   have a1 : 0 ≤ (-L) * s := Int.mul_nonneg hL' hs
   have a2 : (-L) * s ≤ (-L) * t := Int.mul_le_mul_of_nonneg_left ht hL'
   have e1 : K * (-x) = (-L) * s := by grind
   have e2 : K * (-y) = (-L) * t := by grind
   rw [← e1] at a1 a2
   rw [← e2] at a2
   right
   exact ⟨by have := Int.le_of_mul_le_mul_left a2 hK; omega, by by_cases hx : x ≤ 0; exact hx; exact absurd (Int.mul_neg_of_pos_of_neg hK (by omega : -x < 0)) (by omega)⟩
 rcases h with ⟨h, h'⟩ | ⟨h, h'⟩
 ·rcases Int.lt_or_gt_of_ne hK with hn | hp
  ·exact key (-K) (-L) x y s t (by omega) (by grind) (by grind) h h'
  ·exact key K L x y s t hp h1 h2 h h'
 ·rcases Int.lt_or_gt_of_ne hK with hn | hp
  ·exact key (-K) L x y (-s) (-t) (by omega) (by grind) (by grind) (by omega) (by omega)
  ·exact key K (-L) x y (-s) (-t) hp (by grind) (by grind) (by omega) (by omega)
theorem line_first {u v : Int × Int} (h : u.1 ≠ v.1) : (∀ a b p, crs u v a = 0 → crs u v b = 0 → crs u v p = 0 → (OnS a b p ↔ btw a.1 b.1 p.1)) ∧ (∀ a b, crs u v a = 0 → crs u v b = 0 → (a.1 = b.1 ↔ a = b)) := by
 have huv : u ≠ v := fun e => h (by rw [e])
 constructor
 ·intro a b p ha hb hp
  refine ⟨fun H => H.2.1, fun H => ⟨line3 huv ha hb hp, H, ?_⟩⟩
  unfold crs at ha hb hp
  have := mono (K := v.1 - u.1) (L := v.2 - u.2) (x := p.2 - a.2) (y := b.2 - a.2) (s := p.1 - a.1) (t := b.1 - a.1) (by omega) (by grind) (by grind) (by unfold btw at H ⊢; omega)
  unfold btw at this ⊢
  omega
 ·intro a b ha hb
  refine ⟨fun e => Prod.ext e ?_, fun e => by rw [e]⟩
  unfold crs at ha hb
  have e1 : (v.1 - u.1) * a.2 = (v.1 - u.1) * b.2 := by grind
  exact Int.eq_of_mul_eq_mul_left (by omega) e1
theorem line_on {u v : Int × Int} (h : u ≠ v) : ∃ f : Int × Int → Int, (∀ a b p, crs u v a = 0 → crs u v b = 0 → crs u v p = 0 → (OnS a b p ↔ btw (f a) (f b) (f p))) ∧ (∀ a b, crs u v a = 0 → crs u v b = 0 → (f a = f b ↔ a = b)) := by
 by_cases h1 : u.1 = v.1
 ·have h2 : (flip u).1 ≠ (flip v).1 := fun e => h (Prod.ext h1 e)
  obtain ⟨k1, k2⟩ := line_first h2
  refine ⟨fun p => p.2, fun a b p ha hb hp => ?_, fun a b ha hb => ?_⟩
  ·rw [← on_flip]
   exact k1 (flip a) (flip b) (flip p) (by rw [crs_flip]; omega) (by rw [crs_flip]; omega) (by rw [crs_flip]; omega)
  ·have := k2 (flip a) (flip b) (by rw [crs_flip]; omega) (by rw [crs_flip]; omega)
   exact this.trans ⟨fun e => Prod.ext (congrArg Prod.snd e) (congrArg Prod.fst e), fun e => by rw [e]⟩
 ·exact ⟨fun p => p.1, line_first h1⟩

theorem on_same {a x : Int × Int} (h : OnS a a x) : x = a := by
 obtain ⟨-, h1, h2⟩ := h
 unfold btw at h1 h2
 exact Prod.ext (by omega) (by omega)
theorem on_split {a b p x : Int × Int} (hp : OnS a b p) (hx : OnS a b x) : OnS a p x ∨ OnS p b x := by
 by_cases h : a = b
 ·subst h
  rw [on_same hp, on_same hx]
  exact Or.inl (on_left a a)
 ·obtain ⟨f, f1, -⟩ := line_on h
  have ca := crs_aba a b
  have cb := crs_abb a b
  have k1 := (f1 a b p ca cb hp.1).1 hp
  have k2 := (f1 a b x ca cb hx.1).1 hx
  rw [f1 a p x ca hp.1 hx.1, f1 p b x hp.1 cb hx.1]
  unfold btw at *
  omega
theorem on_trans {a b p x : Int × Int} (hp : OnS a b p) (hx : OnS a p x) : OnS a b x := by
 by_cases h : a = p
 ·subst h
  rw [on_same hx]
  exact on_left a b
 ·obtain ⟨f, f1, -⟩ := line_on h
  have ca := crs_aba a p
  have cp := crs_abb a p
  have cb : crs a p b = 0 := by have := hp.1; unfold crs at *; grind
  have k1 := (f1 a b p ca cb cp).1 hp
  have k2 := (f1 a p x ca cp hx.1).1 hx
  rw [f1 a b x ca cb hx.1]
  unfold btw at *
  omega
def M1 (a b c d : Int × Int) : Prop := OnS c d a ∨ OnS c d b ∨ OnS a b c ∨ OnS a b d
def M3 (a b c d : Int × Int) : Prop := (OnS c d a ∧ OnS c d b ∧ a ≠ b) ∨ (OnS c d a ∧ OnS a b c ∧ a ≠ c) ∨ (OnS c d a ∧ OnS a b d ∧ a ≠ d) ∨ (OnS c d b ∧ OnS a b c ∧ b ≠ c) ∨ (OnS c d b ∧ OnS a b d ∧ b ≠ d) ∨ (OnS a b c ∧ OnS a b d ∧ c ≠ d)
def XX (a b c d : Int × Int) : Prop := crs a b c * crs a b d < 0 ∧ crs c d a * crs c d b < 0

theorem two_common {a b c d x y : Int × Int} (hne : x ≠ y) (h1 : OnS a b x) (h2 : OnS c d x) (h3 : OnS a b y) (h4 : OnS c d y) : M3 a b c d := by
 have hab : a ≠ b := fun e => by subst e; exact hne ((on_same h1).trans (on_same h3).symm)
 have hcd : c ≠ d := fun e => by subst e; exact hne ((on_same h2).trans (on_same h4).symm)
 have ca := line3 hab h1.1 h3.1 (crs_aba a b)
 have cb := line3 hab h1.1 h3.1 (crs_abb a b)
 have cc := line3 hcd h2.1 h4.1 (crs_aba c d)
 have cd := line3 hcd h2.1 h4.1 (crs_abb c d)
 have cx := crs_aba x y
 have cy := crs_abb x y
 obtain ⟨f, f1, f2⟩ := line_on hne
 have k1 := (f1 a b x ca cb cx).1 h1
 have k2 := (f1 c d x cc cd cx).1 h2
 have k3 := (f1 a b y ca cb cy).1 h3
 have k4 := (f1 c d y cc cd cy).1 h4
 have kn : f x ≠ f y := fun e => hne ((f2 x y cx cy).1 e)
 have e1 := fun (u v : Int × Int) (hu : crs x y u = 0) (hv : crs x y v = 0) => not_congr (f2 u v hu hv)
 unfold M3
 rw [f1 c d a cc cd ca, f1 c d b cc cd cb, f1 a b c ca cb cc, f1 a b d ca cb cd]
 simp only [ne_eq]
 rw [← e1 a b ca cb, ← e1 a c ca cc, ← e1 a d ca cd, ← e1 b c cb cc, ← e1 b d cb cd, ← e1 c d cc cd]
 generalize f a = A at *
 generalize f b = B at *
 generalize f c = C at *
 generalize f d = D at *
 generalize f x = X at *
 generalize f y = Y at *
 unfold btw at *
 clear ca cb cc cd cx cy f1 f2 e1 h1 h2 h3 h4
 omega
theorem M3_iff {a b c d : Int × Int} : M3 a b c d ↔ ∃ x y, x ≠ y ∧ OnS a b x ∧ OnS c d x ∧ OnS a b y ∧ OnS c d y := by
 constructor
 ·rintro (⟨h1, h2, h⟩ | ⟨h1, h2, h⟩ | ⟨h1, h2, h⟩ | ⟨h1, h2, h⟩ | ⟨h1, h2, h⟩ | ⟨h1, h2, h⟩)
  ·exact ⟨a, b, h, on_left a b, h1, on_right a b, h2⟩
  ·exact ⟨a, c, h, on_left a b, h1, h2, on_left c d⟩
  ·exact ⟨a, d, h, on_left a b, h1, h2, on_right c d⟩
  ·exact ⟨b, c, h, on_right a b, h1, h2, on_left c d⟩
  ·exact ⟨b, d, h, on_right a b, h1, h2, on_right c d⟩
  ·exact ⟨c, d, h, h1, on_left c d, h2, on_right c d⟩
 ·rintro ⟨x, y, h, h1, h2, h3, h4⟩
  exact two_common h h1 h2 h3 h4
theorem M1_iff {a b c d : Int × Int} : M1 a b c d ↔ ∃ e, (e = a ∨ e = b ∨ e = c ∨ e = d) ∧ OnS a b e ∧ OnS c d e := by
 constructor
 ·rintro (h | h | h | h)
  ·exact ⟨a, by simp, on_left a b, h⟩
  ·exact ⟨b, by simp, on_right a b, h⟩
  ·exact ⟨c, by simp, h, on_left c d⟩
  ·exact ⟨d, by simp, h, on_right c d⟩
 ·rintro ⟨e, rfl | rfl | rfl | rfl, h1, h2⟩
  ·exact Or.inl h2
  ·exact Or.inr (Or.inl h2)
  ·exact Or.inr (Or.inr (Or.inl h1))
  ·exact Or.inr (Or.inr (Or.inr h1))
end Go.Proofs.YtjlnjjmomohpaaaGreat

namespace Go.Proofs.YtjlnjjmomohpaaaGreat

theorem opp_of {m t A B : Int} (hm : 0 < m) (ht : 0 < t) (h : m * A + t * B = 0) : (A = 0 ∧ B = 0) ∨ A * B < 0 := by
 rcases Int.lt_trichotomy A 0 with hA | hA | hA
 ·right
  have h1 := Int.mul_neg_of_pos_of_neg hm hA
  have h2 : 0 < B := by
   by_cases hB : 0 < B
   ·exact hB
   ·exact absurd (Int.mul_nonpos_of_nonneg_of_nonpos (Int.le_of_lt ht) (by omega : B ≤ 0)) (by omega)
  exact Int.mul_neg_of_neg_of_pos hA h2
 ·left
  subst hA
  rw [Int.mul_zero, Int.zero_add] at h
  exact ⟨rfl, (Int.mul_eq_zero.1 h).resolve_left (by omega)⟩
 ·right
  have h1 := Int.mul_pos hm hA
  have h2 : B < 0 := by
   by_cases hB : B < 0
   ·exact hB
   ·exact absurd (Int.mul_nonneg (Int.le_of_lt ht) (by omega : 0 ≤ B)) (by omega)
  exact Int.mul_neg_of_pos_of_neg hA h2
theorem not_end {a b p : Int × Int} {N t : Int} (hN : 0 < N) (h1 : N * (p.1 - a.1) = t * (b.1 - a.1)) (h2 : N * (p.2 - a.2) = t * (b.2 - a.2)) : (t = 0 → p = a) ∧ (t = N → p = b) := by
 constructor
 ·rintro rfl
  rw [Int.zero_mul] at h1 h2
  have e1 := (Int.mul_eq_zero.1 h1).resolve_left (by omega)
  have e2 := (Int.mul_eq_zero.1 h2).resolve_left (by omega)
  exact Prod.ext (by omega) (by omega)
 ·rintro rfl
  have e1 := Int.eq_of_mul_eq_mul_left (by omega) h1
  have e2 := Int.eq_of_mul_eq_mul_left (by omega) h2
  exact Prod.ext (by omega) (by omega)
theorem within {a b c d p : Int × Int} (h : OnS a b p) (ha : p ≠ a) (hb : p ≠ b) (hp : crs c d p = 0) : (crs c d a = 0 ∧ crs c d b = 0) ∨ crs c d a * crs c d b < 0 := by
 have hab : a ≠ b := fun e => by subst e; exact ha (on_same h)
 obtain ⟨N, t, hN, h0, h1, e1, e2⟩ := on_part h hab
 obtain ⟨k1, k2⟩ := not_end hN e1 e2
 have e := crs_part e1 e2 c d
 rw [hp, Int.mul_zero] at e
 have h0' : t ≠ 0 := fun e => ha (k1 e)
 have h1' : t ≠ N := fun e => hb (k2 e)
 exact opp_of (m := N - t) (t := t) (by omega) (by omega) (by omega)
theorem one_common {a b c d p : Int × Int} (h1 : OnS a b p) (h2 : OnS c d p) : M1 a b c d ∨ XX a b c d := by
 by_cases hm : M1 a b c d
 ·exact Or.inl hm
 ·right
  have na : p ≠ a := fun e => hm (Or.inl (e ▸ h2))
  have nb : p ≠ b := fun e => hm (Or.inr (Or.inl (e ▸ h2)))
  have nc : p ≠ c := fun e => hm (Or.inr (Or.inr (Or.inl (e ▸ h1))))
  have nd : p ≠ d := fun e => hm (Or.inr (Or.inr (Or.inr (e ▸ h1))))
  have hab : a ≠ b := fun e => by subst e; exact na (on_same h1)
  have hcd : c ≠ d := fun e => by subst e; exact nc (on_same h2)
  have inline : crs c d a = 0 → crs c d b = 0 → False := by
   intro ca cb
   obtain ⟨f, f1, -⟩ := line_on hcd
   have cc := crs_aba c d
   have cd := crs_abb c d
   have k1 := (f1 a b p ca cb h2.1).1 h1
   have k2 := (f1 c d p cc cd h2.1).1 h2
   apply hm
   unfold M1
   rw [f1 c d a cc cd ca, f1 c d b cc cd cb, f1 a b c ca cb cc, f1 a b d ca cb cd]
   unfold btw at *
   omega
  rcases within h1 na nb h2.1 with ⟨e1, e2⟩ | hx
  ·exact absurd (inline e1 e2) id
  ·rcases within h2 nc nd h1.1 with ⟨e1, e2⟩ | hy
   ·have ca := line3 hab e1 e2 (crs_aba a b)
    have cb := line3 hab e1 e2 (crs_abb a b)
    exact absurd (inline ca cb) id
   ·exact ⟨hy, hx⟩

open Classical in
noncomputable def meet (a b c d : Int × Int) : Int := if M3 a b c d then 3 else if M1 a b c d then 1 else if XX a b c d then 2 else 0
section
variable {a b c d p x : Int × Int}
theorem M3.one (h : M3 a b c d) : M1 a b c d := by
 rcases h with ⟨h1, h2, h⟩ | ⟨h1, h2, h⟩ | ⟨h1, h2, h⟩ | ⟨h1, h2, h⟩ | ⟨h1, h2, h⟩ | ⟨h1, h2, h⟩
 ·exact Or.inl h1
 ·exact Or.inl h1
 ·exact Or.inl h1
 ·exact Or.inr (Or.inl h1)
 ·exact Or.inr (Or.inl h1)
 ·exact Or.inr (Or.inr (Or.inl h1))
theorem meet_bound : 0 ≤ meet a b c d ∧ meet a b c d ≤ 3 := by unfold meet; split <;> (try split) <;> (try split) <;> omega
theorem meet_three : meet a b c d = 3 ↔ M3 a b c d := by
 unfold meet
 split
 ·simp [*]
 ·split <;> (try split) <;> simp [*]
theorem meet_pos : 0 < meet a b c d ↔ (M1 a b c d ∨ XX a b c d) := by
 unfold meet
 split
 ·rename_i h; simp [h.one]
 ·split
  ·simp [*]
  ·split <;> simp [*]
theorem meet_one (h1 : M1 a b c d) (h3 : ¬ M3 a b c d) : meet a b c d = 1 := by unfold meet; rw [if_neg h3, if_pos h1]
theorem meet_of {a' b' c' d' : Int × Int} (h3 : M3 a b c d ↔ M3 a' b' c' d') (h1 : M1 a b c d ↔ M1 a' b' c' d') (h2 : XX a b c d ↔ XX a' b' c' d') : meet a b c d = meet a' b' c' d' := by
 have e3 := propext h3
 have e1 := propext h1
 have e2 := propext h2
 unfold meet
 rw [e3, e1, e2]
theorem meet_turn : meet b a c d = meet a b c d := by
 refine meet_of ?_ ?_ ?_
 ·rw [M3_iff, M3_iff]
  simp only [on_turn (a := a) (b := b)]
 ·unfold M1
  rw [on_turn (a := a) (b := b), on_turn (a := a) (b := b)]
  constructor <;> (rintro (h | h | h | h) <;> simp [h])
 ·unfold XX
  rw [crs_turn a b c, crs_turn a b d, Int.neg_mul_neg, Int.mul_comm (crs c d b)]
theorem meet_swap : meet c d a b = meet a b c d := by
 refine meet_of ?_ ?_ ?_
 ·rw [M3_iff, M3_iff]
  constructor
  ·rintro ⟨x, y, h, h1, h2, h3, h4⟩; exact ⟨x, y, h, h2, h1, h4, h3⟩
  ·rintro ⟨x, y, h, h1, h2, h3, h4⟩; exact ⟨x, y, h, h2, h1, h4, h3⟩
 ·unfold M1
  constructor <;> (rintro (h | h | h | h) <;> simp [h])
 ·unfold XX
  exact And.comm
theorem mul_signs {A B : Int} (h : A * B < 0) : (A < 0 ∧ 0 < B) ∨ (0 < A ∧ B < 0) := by
 rcases Int.lt_trichotomy A 0 with hA | hA | hA
 ·left
  refine ⟨hA, ?_⟩
  by_cases hB : 0 < B
  ·exact hB
  ·exact absurd (Int.mul_nonneg_of_nonpos_of_nonpos (Int.le_of_lt hA) (by omega : B ≤ 0)) (by omega)
 ·subst hA; rw [Int.zero_mul] at h; omega
 ·right
  refine ⟨hA, ?_⟩
  by_cases hB : B < 0
  ·exact hB
  ·exact absurd (Int.mul_nonneg (Int.le_of_lt hA) (by omega : 0 ≤ B)) (by omega)
theorem mul_of {A B : Int} (h : (A < 0 ∧ 0 < B) ∨ (0 < A ∧ B < 0)) : A * B < 0 := by
 rcases h with ⟨h1, h2⟩ | ⟨h1, h2⟩
 ·exact Int.mul_neg_of_neg_of_pos h1 h2
 ·exact Int.mul_neg_of_pos_of_neg h1 h2
theorem same_sign {N t C K : Int} (hN : 0 < N) (ht : 0 < t) (h : N * K = t * C) : (C < 0 → K < 0) ∧ (0 < C → 0 < K) := by
 constructor
 ·intro hC
  have h1 := Int.mul_neg_of_pos_of_neg ht hC
  by_cases hK : K < 0
  ·exact hK
  ·exact absurd (Int.mul_nonneg (Int.le_of_lt hN) (by omega : 0 ≤ K)) (by omega)
 ·intro hC
  have h1 := Int.mul_pos ht hC
  by_cases hK : 0 < K
  ·exact hK
  ·exact absurd (Int.mul_nonpos_of_nonneg_of_nonpos (Int.le_of_lt hN) (by omega : K ≤ 0)) (by omega)
theorem mix_sign {m t A B P N : Int} (hN : 0 < N) (hm : 0 ≤ m) (ht : 0 ≤ t) (h : N * P = m * A + t * B) : (A ≤ 0 → 0 < P → 0 < B) ∧ (0 ≤ A → P < 0 → B < 0) := by
 constructor
 ·intro hA hP
  have h1 := Int.mul_pos hN hP
  have h2 := Int.mul_nonpos_of_nonneg_of_nonpos hm hA
  by_cases hB : 0 < B
  ·exact hB
  ·exact absurd (Int.mul_nonpos_of_nonneg_of_nonpos ht (by omega : B ≤ 0)) (by omega)
 ·intro hA hP
  have h1 := Int.mul_neg_of_pos_of_neg hN hP
  have h2 := Int.mul_nonneg hm hA
  by_cases hB : B < 0
  ·exact hB
  ·exact absurd (Int.mul_nonneg ht (by omega : 0 ≤ B)) (by omega)

theorem part_whole (hp : OnS a b p) (h : 0 < meet a p c d) : 0 < meet a b c d := by
 rw [meet_pos] at h ⊢
 rcases h with h | ⟨h1, h2⟩
 ·obtain ⟨e, -, k1, k2⟩ := M1_iff.1 h
  exact one_common (on_trans hp k1) k2
 ·have hab : a ≠ b := fun e => by
   subst e
   rw [on_same hp, crs_aab, Int.zero_mul] at h1
   omega
  obtain ⟨N, t, hN, h0, hl, e1, e2⟩ := on_part hp hab
  obtain ⟨k1, k2⟩ := not_end hN e1 e2
  have ht : 0 < t := by
   by_cases ht : t = 0
   ·rw [k1 ht, crs_aab, Int.zero_mul] at h1; omega
   ·omega
  have c1 := same_sign ht hN (crs_part2 e1 e2 c).1.symm
  have c2 := same_sign ht hN (crs_part2 e1 e2 d).1.symm
  have mx := mix_sign hN (by omega : 0 ≤ N - t) h0 (crs_part e1 e2 c d)
  have s1 := mul_signs h1
  have s2 := mul_signs h2
  right
  refine ⟨mul_of ?_, mul_of ?_⟩
  ·rcases s1 with ⟨u, v⟩ | ⟨u, v⟩
   ·exact Or.inl ⟨c1.1 u, c2.2 v⟩
   ·exact Or.inr ⟨c1.2 u, c2.1 v⟩
  ·rcases s2 with ⟨u, v⟩ | ⟨u, v⟩
   ·exact Or.inl ⟨u, mx.1 (by omega) v⟩
   ·exact Or.inr ⟨u, mx.2 (by omega) v⟩
theorem part_whole' (hp : OnS a b p) (h : 0 < meet p b c d) : 0 < meet a b c d := by
 rw [← meet_turn]
 refine part_whole (on_turn.1 hp) ?_
 rw [meet_turn]
 exact h
end
end Go.Proofs.YtjlnjjmomohpaaaGreat

namespace Go.Proofs.YtjlnjjmomohpaaaGreat

def Gd (p : Int × Int) : Prop := -1073741824 ≤ p.1 ∧ p.1 ≤ 1073741824 ∧ -1073741824 ≤ p.2 ∧ p.2 ≤ 1073741824
instance (p : Int × Int) : Decidable (Gd p) := by unfold Gd; exact inferInstance
def gd (p : Int × Int) : Bool := decide (Gd p)
def gdL (ps : List (Int × Int)) : Bool := ps.all gd
def sgn (n : Int) : Int := if n < 0 then -1 else if n = 0 then 0 else 1
theorem sgn_bd (n : Int) : -1 ≤ sgn n ∧ sgn n ≤ 1 := by unfold sgn; split <;> (try split) <;> omega
theorem sgn_lt {n : Int} : sgn n < 0 ↔ n < 0 := by unfold sgn; split <;> (try split) <;> omega
theorem sgn_gt {n : Int} : 0 < sgn n ↔ 0 < n := by unfold sgn; split <;> (try split) <;> omega
theorem sgn_zero {n : Int} : sgn n = 0 ↔ n = 0 := by unfold sgn; split <;> (try split) <;> omega
theorem sgn_mul {a b : Int} : sgn a * sgn b < 0 ↔ a * b < 0 := by
 constructor
 ·intro h
  rcases mul_signs h with ⟨h1, h2⟩ | ⟨h1, h2⟩
  ·exact mul_of (Or.inl ⟨sgn_lt.1 h1, sgn_gt.1 h2⟩)
  ·exact mul_of (Or.inr ⟨sgn_gt.1 h1, sgn_lt.1 h2⟩)
 ·intro h
  rcases mul_signs h with ⟨h1, h2⟩ | ⟨h1, h2⟩
  ·exact mul_of (Or.inl ⟨sgn_lt.2 h1, sgn_gt.2 h2⟩)
  ·exact mul_of (Or.inr ⟨sgn_gt.2 h1, sgn_lt.2 h2⟩)
theorem cmp_sgn {n : Int} (h : InR n) : cmp (hiOf n) (loOf n) 0 0 = sgn n := by
 have w0 : Wf 0 0 := by unfold Wf; omega
 rw [cmp_val (wf_of h) w0, val_of]
 have hz : val 0 0 = 0 := rfl
 rw [hz]
 unfold sgn
 rfl

theorem mul_lim {x y P Q : Int} (hP : -P ≤ x ∧ x ≤ P) (hQ : -Q ≤ y ∧ y ≤ Q) : -(P * Q) ≤ x * y ∧ x * y ≤ P * Q := by
 have e : (x * y).natAbs ≤ P.toNat * Q.toNat := by
  rw [Int.natAbs_mul]; exact Nat.mul_le_mul (by omega) (by omega)
 have e2 : ((P.toNat * Q.toNat : Nat) : Int) = P * Q := by
  rw [Int.natCast_mul, Int.toNat_of_nonneg (by omega), Int.toNat_of_nonneg (by omega)]
 omega
theorem par_lim {u t v s M : Int} (h1 : 0 ≤ u) (h2 : 0 ≤ t) (hM : u + t ≤ M) (hv : -M ≤ v ∧ v ≤ M) (hs : -M ≤ s ∧ s ≤ M) : -(M * M) ≤ u * v + t * s ∧ u * v + t * s ≤ M * M := by
 have a1 := Int.mul_le_mul_of_nonneg_left hv.2 h1
 have a2 := Int.mul_le_mul_of_nonneg_left hs.2 h2
 have a3 := Int.mul_le_mul_of_nonneg_left hv.1 h1
 have a4 := Int.mul_le_mul_of_nonneg_left hs.1 h2
 have a5 := Int.mul_le_mul_of_nonneg_right hM (by omega : 0 ≤ M)
 rw [Int.add_mul] at a5
 rw [Int.mul_neg] at a3 a4
 omega
theorem same_lim {u t v s M : Int} (h1 : 0 ≤ u) (h2 : 0 ≤ t) (h3 : 0 ≤ v) (h4 : 0 ≤ s) (hu : u ≤ M) (ht : t ≤ M) (hv : v ≤ M) (hs : s ≤ M) : -(M * M) ≤ u * v - t * s ∧ u * v - t * s ≤ M * M := by
 have a1 := Int.mul_nonneg h1 h3
 have a2 := Int.mul_nonneg h2 h4
 have a3 := Int.mul_le_mul hu hv h3 (by omega)
 have a4 := Int.mul_le_mul ht hs h4 (by omega)
 omega
theorem crs_lim {a b c : Int × Int} (ha : Gd a) (hb : Gd b) (hc : Gd c) : -4611686018427387904 ≤ crs a b c ∧ crs a b c ≤ 4611686018427387904 := by
 unfold Gd at ha hb hc
 unfold crs
 have e : (2147483648 : Int) * 2147483648 = 4611686018427387904 := by decide
 generalize hu : b.1 - a.1 = u at *
 generalize ht : c.1 - a.1 = t at *
 generalize hv : c.2 - a.2 = v at *
 generalize hs : b.2 - a.2 = s at *
 rw [← e]
 rcases Int.le_total 0 u with u0 | u0 <;> rcases Int.le_total 0 t with t0 | t0
 ·rcases Int.le_total 0 v with v0 | v0 <;> rcases Int.le_total 0 s with s0 | s0
  ·have := same_lim u0 t0 v0 s0 (M := 2147483648) (by omega) (by omega) (by omega) (by omega)
   rw [Int.mul_comm s t]; omega
  ·have := par_lim v0 (show 0 ≤ -s by omega) (M := 2147483648) (v := u) (s := t) (by omega) (by omega) (by omega)
   rw [Int.mul_comm u v]; rw [Int.neg_mul] at this; omega
  ·have := par_lim s0 (show 0 ≤ -v by omega) (M := 2147483648) (v := t) (s := u) (by omega) (by omega) (by omega)
   rw [Int.mul_comm u v]; rw [Int.neg_mul] at this; omega
  ·have := same_lim u0 t0 (show 0 ≤ -v by omega) (show 0 ≤ -s by omega) (M := 2147483648) (by omega) (by omega) (by omega) (by omega)
   rw [Int.mul_neg, Int.mul_neg] at this
   rw [Int.mul_comm s t]; omega
 ·have := par_lim u0 (show 0 ≤ -t by omega) (M := 2147483648) (v := v) (s := s) (by omega) (by omega) (by omega)
  rw [Int.neg_mul] at this; rw [Int.mul_comm s t]; omega
 ·have := par_lim t0 (show 0 ≤ -u by omega) (M := 2147483648) (v := s) (s := v) (by omega) (by omega) (by omega)
  rw [Int.neg_mul] at this; rw [Int.mul_comm s t]; omega
 ·rcases Int.le_total 0 v with v0 | v0 <;> rcases Int.le_total 0 s with s0 | s0
  ·have := same_lim (show 0 ≤ -u by omega) (show 0 ≤ -t by omega) v0 s0 (M := 2147483648) (by omega) (by omega) (by omega) (by omega)
   rw [Int.neg_mul, Int.neg_mul] at this
   rw [Int.mul_comm s t]; omega
  ·have := par_lim v0 (show 0 ≤ -s by omega) (M := 2147483648) (v := u) (s := t) (by omega) (by omega) (by omega)
   rw [Int.mul_comm u v]; rw [Int.neg_mul] at this; omega
  ·have := par_lim s0 (show 0 ≤ -v by omega) (M := 2147483648) (v := t) (s := u) (by omega) (by omega) (by omega)
   rw [Int.mul_comm u v]; rw [Int.neg_mul] at this; omega
  ·have := same_lim (show 0 ≤ -u by omega) (show 0 ≤ -t by omega) (show 0 ≤ -v by omega) (show 0 ≤ -s by omega) (M := 2147483648) (by omega) (by omega) (by omega) (by omega)
   rw [Int.neg_mul_neg, Int.neg_mul_neg] at this
   rw [Int.mul_comm s t]; omega
theorem crs_inR {a b c : Int × Int} (ha : Gd a) (hb : Gd b) (hc : Gd c) : InR (crs a b c) := by
 have := crs_lim ha hb hc
 unfold InR; omega
theorem crs_mul {a b c : Int × Int} (ha : Gd a) (hb : Gd b) (hc : Gd c) : -4611686018427387904 ≤ (b.1 - a.1) * (c.2 - a.2) ∧ (b.1 - a.1) * (c.2 - a.2) ≤ 4611686018427387904 := by
 unfold Gd at ha hb hc
 have := mul_lim (x := b.1 - a.1) (y := c.2 - a.2) (P := 2147483648) (Q := 2147483648) (by omega) (by omega)
 omega
theorem crs_mul' {a b c : Int × Int} (ha : Gd a) (hb : Gd b) (hc : Gd c) : -4611686018427387904 ≤ (b.2 - a.2) * (c.1 - a.1) ∧ (b.2 - a.2) * (c.1 - a.1) ≤ 4611686018427387904 := by
 unfold Gd at ha hb hc
 have := mul_lim (x := b.2 - a.2) (y := c.1 - a.1) (P := 2147483648) (Q := 2147483648) (by omega) (by omega)
 omega
theorem sub_of {x y : Int} (hx : InR x) (hy : InR y) (hf : InR (x - y)) : bH (hiOf x) (loOf x) (hiOf y) (loOf y) = hiOf (x - y) ∧ bL (hiOf x) (loOf x) (hiOf y) (loOf y) = loOf (x - y) ∧ bE (hiOf x) (loOf x) (hiOf y) (loOf y) = 0 := by
 have hm : mFit (hiOf x) (loOf x) (hiOf y) (loOf y) = true := by
  rw [minus_fit (wf_of hx) (wf_of hy), val_of, val_of]; exact decide_eq_true hf
 have hv := minus_val (wf_of hx) (wf_of hy) (by rw [val_of, val_of]; exact hf)
 rw [val_of, val_of] at hv
 have hw := val_inj minus_wf (wf_of hf) (by rw [hv, val_of])
 unfold bH bL bE
 rw [if_pos hm, if_pos hm, if_pos hm]
 exact ⟨hw.1, hw.2, rfl⟩
theorem add_of {x y : Int} (hx : InR x) (hy : InR y) (hf : InR (x + y)) : aH (hiOf x) (loOf x) (hiOf y) (loOf y) = hiOf (x + y) ∧ aL (hiOf x) (loOf x) (hiOf y) (loOf y) = loOf (x + y) ∧ aE (hiOf x) (loOf x) (hiOf y) (loOf y) = 0 := by
 have hm : pFit (hiOf x) (loOf x) (hiOf y) (loOf y) = true := by
  rw [plus_fit (wf_of hx) (wf_of hy), val_of, val_of]; exact decide_eq_true hf
 have hv := plus_val (wf_of hx) (wf_of hy) (by rw [val_of, val_of]; exact hf)
 rw [val_of, val_of] at hv
 have hw := val_inj plus_wf (wf_of hf) (by rw [hv, val_of])
 unfold aH aL aE
 rw [if_pos hm, if_pos hm, if_pos hm]
 exact ⟨hw.1, hw.2, rfl⟩
end Go.Proofs.YtjlnjjmomohpaaaGreat

namespace Go.Proofs.YtjlnjjmomohpaaaGreat

def nx (r : List (Int × Int)) (i : Nat) : Int × Int := r.getD (i % r.length) (0, 0)
theorem nx_lt {r : List (Int × Int)} {i : Nat} (h : i < r.length) : nx r i = r[i] := by
 unfold nx
 rw [Nat.mod_eq_of_lt h, List.getD_eq_getElem?_getD, List.getElem?_eq_getElem h]
 rfl
theorem nx_per (r : List (Int × Int)) (i : Nat) : nx r (i + r.length) = nx r i := by unfold nx; rw [Nat.add_mod_right]
theorem nx_mod (r : List (Int × Int)) (i : Nat) : nx r (i % r.length) = nx r i := by unfold nx; rw [Nat.mod_mod]

def sumTo (f : Nat → Int) : Nat → Int
 |0 => 0
 |n + 1 => sumTo f n + f n
def oddTo (f : Nat → Bool) : Nat → Bool
 |0 => false
 |n + 1 => oddTo f n ^^ f n
theorem sumTo_ext {f g : Nat → Int} : ∀ n, (∀ i, i < n → f i = g i) → sumTo f n = sumTo g n
 |0, _ => rfl
 |n + 1, h => by rw [sumTo, sumTo, sumTo_ext n (fun i hi => h i (by omega)), h n (by omega)]
theorem sumTo_succ (f : Nat → Int) : ∀ n, sumTo (fun i => f (i + 1)) n = sumTo f n + f n - f 0
 |0 => by simp [sumTo]
 |n + 1 => by rw [sumTo, sumTo_succ f n, sumTo]; omega
theorem sumTo_shift {f : Nat → Int} {n : Nat} (h : ∀ i, f (i + n) = f i) : ∀ s, sumTo (fun i => f (i + s)) n = sumTo f n
 |0 => rfl
 |s + 1 => by
  have e := sumTo_succ (fun i => f (i + s)) n
  have e2 : (fun i => f (i + (s + 1))) = fun i => (fun j => f (j + s)) (i + 1) := by
   funext i; show f (i + (s + 1)) = f (i + 1 + s); congr 1; omega
  rw [e2, e, sumTo_shift h s]
  have : f (n + s) = f (0 + s) := by rw [show n + s = (0 + s) + n by omega, h]
  simp only [this]
  omega
theorem sumTo_neg (f : Nat → Int) : ∀ n, sumTo (fun i => -f i) n = -sumTo f n
 |0 => rfl
 |n + 1 => by rw [sumTo, sumTo, sumTo_neg f n]; omega
theorem sumTo_add (f g : Nat → Int) : ∀ n, sumTo (fun i => f i + g i) n = sumTo f n + sumTo g n
 |0 => rfl
 |n + 1 => by rw [sumTo, sumTo, sumTo, sumTo_add f g n]; omega
theorem sumTo_lim {f : Nat → Int} {B : Int} : ∀ n, (∀ i, i < n → -B ≤ f i ∧ f i ≤ B) → -(n * B) ≤ sumTo f n ∧ sumTo f n ≤ n * B
 |0, _ => by simp [sumTo]
 |n + 1, h => by
  have h1 := sumTo_lim n (fun i hi => h i (by omega))
  have h2 := h n (by omega)
  have e : ((n + 1 : Nat) : Int) * B = n * B + B := by rw [Int.natCast_add, Int.add_mul]; simp
  rw [sumTo, e]
  omega

def crs0 (a b : Int × Int) : Int := a.1 * b.2 - a.2 * b.1
theorem crs0_crs (a b : Int × Int) : crs (0, 0) a b = crs0 a b := by unfold crs crs0; grind
def area (r : List (Int × Int)) : Int := sumTo (fun i => crs0 (nx r i) (nx r (i + 1))) r.length
def cutB (a b p : Int × Int) : Bool := if b.2 < a.2 then decide (b.2 ≤ p.2 ∧ p.2 < a.2 ∧ 0 < crs b a p) else decide (a.2 ≤ p.2 ∧ p.2 < b.2 ∧ 0 < crs a b p)
def onRim (r : List (Int × Int)) (p : Int × Int) : Prop := ∃ i, i < r.length ∧ OnS (nx r i) (nx r (i + 1)) p
open Classical in
noncomputable def side (r : List (Int × Int)) (p : Int × Int) : Int := if onRim r p then 0 else if oddTo (fun i => cutB (nx r i) (nx r (i + 1)) p) r.length then 1 else -1
def adj (n i j : Nat) : Prop := (i + 1) % n = j % n ∨ (j + 1) % n = i % n
instance (n i j : Nat) : Decidable (adj n i j) := by unfold adj; exact inferInstance
def Apart (r : List (Int × Int)) (i j : Nat) : Prop := nx r i ≠ nx r j ∧ (adj r.length i j → meet (nx r i) (nx r (i + 1)) (nx r j) (nx r (j + 1)) = 1) ∧ (¬ adj r.length i j → meet (nx r i) (nx r (i + 1)) (nx r j) (nx r (j + 1)) = 0)
def Sound (r : List (Int × Int)) : Prop := 3 ≤ r.length ∧ 0 < area r ∧ ∀ i j, i % r.length ≠ j % r.length → Apart r i j
theorem adj_comm {n i j : Nat} : adj n i j ↔ adj n j i := Or.comm
theorem apart_comm {r : List (Int × Int)} {i j : Nat} (h : Apart r i j) : Apart r j i := by
 refine ⟨fun e => h.1 e.symm, fun e => ?_, fun e => ?_⟩
 ·rw [← meet_swap, h.2.1 (adj_comm.1 e)]
 ·rw [← meet_swap, h.2.2 (fun x => e (adj_comm.1 x))]
theorem apart_of {r : List (Int × Int)} {i j i' j' : Nat} (hi : i % r.length = i' % r.length) (hj : j % r.length = j' % r.length) (h : Apart r i j) : Apart r i' j' := by
 have e : ∀ {x y : Nat}, x % r.length = y % r.length → nx r x = nx r y := fun {x y} h => by unfold nx; rw [h]
 have e1 : ∀ {x y : Nat}, x % r.length = y % r.length → (x + 1) % r.length = (y + 1) % r.length := fun {x y} h => by rw [← Nat.mod_add_mod, h, Nat.mod_add_mod]
 unfold Apart adj at *
 rw [← e hi, ← e hj, ← e (e1 hi), ← e (e1 hj), ← hi, ← hj, ← e1 hi, ← e1 hj]
 exact h
theorem sound_iff {r : List (Int × Int)} : Sound r ↔ 3 ≤ r.length ∧ 0 < area r ∧ ∀ i j, i < j → j < r.length → Apart r i j := by
 constructor
 ·rintro ⟨h1, h2, h3⟩
  refine ⟨h1, h2, fun i j hij hj => h3 i j ?_⟩
  rw [Nat.mod_eq_of_lt hj, Nat.mod_eq_of_lt (by omega)]
  omega
 ·rintro ⟨h1, h2, h3⟩
  refine ⟨h1, h2, fun i j hij => ?_⟩
  have hi := Nat.mod_lt i (show 0 < r.length by omega)
  have hj := Nat.mod_lt j (show 0 < r.length by omega)
  refine apart_of (i := i % r.length) (j := j % r.length) (Nat.mod_mod _ _) (Nat.mod_mod _ _) ?_
  rcases Nat.lt_or_gt_of_ne hij with h | h
  ·exact h3 _ _ h hj
  ·exact apart_comm (h3 _ _ h hi)
theorem adj_lt {n i j : Nat} (hn : 3 ≤ n) (hij : i < j) (hj : j < n) : adj n i j ↔ j = i + 1 ∨ (i = 0 ∧ j = n - 1) := by
 unfold adj
 rw [Nat.mod_eq_of_lt hj, Nat.mod_eq_of_lt (show i < n by omega), Nat.mod_eq_of_lt (show i + 1 < n by omega)]
 by_cases h : j + 1 < n
 ·rw [Nat.mod_eq_of_lt h]; omega
 ·have : j + 1 = n := by omega
  rw [this, Nat.mod_self]; omega

theorem mod_add_iff (x y k n : Nat) : (x + k) % n = (y + k) % n ↔ x % n = y % n := by
 have h := Int.emod_add_cancel_right (m := (x : Int)) (n := (n : Int)) (k := (y : Int)) (k : Int)
 rw [← Int.natCast_add, ← Int.natCast_add, ← Int.natCast_emod, ← Int.natCast_emod, ← Int.natCast_emod, ← Int.natCast_emod, Int.natCast_inj, Int.natCast_inj] at h
 exact h
end Go.Proofs.YtjlnjjmomohpaaaGreat

namespace Go.Proofs.YtjlnjjmomohpaaaGreat

def mvd (d p : Int × Int) : Int × Int := (p.1 + d.1, p.2 + d.2)
theorem crs_mvd (d a b c : Int × Int) : crs (mvd d a) (mvd d b) (mvd d c) = crs a b c := by unfold crs mvd; grind
theorem tele (g : Nat → Int) : ∀ n, sumTo (fun i => g (i + 1) - g i) n = g n - g 0
 |0 => by simp [sumTo]
 |n + 1 => by rw [sumTo, tele g n]; omega
section
variable {a b c d p q : Int × Int}
theorem not_corner (h : OnS a b p) (h0 : meet c d a b = 0) : c ≠ p := fun e => by
 subst e
 have : 0 < meet c d a b := meet_pos.2 (one_common (on_left c d) h)
 omega
end

end Go.Proofs.YtjlnjjmomohpaaaGreat

namespace Go.Proofs.YtjlnjjmomohpaaaGreat

def psv (a b p : Int × Int) : Int := if a.2 < p.2 ∧ p.2 ≤ b.2 ∧ 0 < crs a b p then 1 else if b.2 < p.2 ∧ p.2 ≤ a.2 ∧ crs a b p < 0 then -1 else 0
def wind (r : List (Int × Int)) (p : Int × Int) : Int := sumTo (fun i => psv (nx r i) (nx r (i + 1)) p) r.length
open Classical in
noncomputable def sideW (r : List (Int × Int)) (p : Int × Int) : Int := if onRim r p then 0 else if wind r p = 1 then 1 else -1
theorem side_zero {r : List (Int × Int)} {p : Int × Int} : side r p = 0 ↔ onRim r p := by
 unfold side
 by_cases h : onRim r p
 ·simp [h]
 ·rw [if_neg h]
  constructor
  ·intro e; split at e <;> omega
  ·exact fun h' => absurd h' h
theorem psv_mvd (d a b p : Int × Int) : psv (mvd d a) (mvd d b) (mvd d p) = psv a b p := by
 unfold psv
 rw [crs_mvd]
 unfold mvd
 simp only [Int.add_lt_add_iff_right, Int.add_le_add_iff_right]
end Go.Proofs.YtjlnjjmomohpaaaGreat

namespace Go.Proofs.YtjlnjjmomohpaaaGreat

theorem mulSigns (x y : Int) : (0 < x → 0 < y → 0 < x * y) ∧ (0 < x → y < 0 → x * y < 0) ∧ (x < 0 → 0 < y → x * y < 0) ∧ (x < 0 → y < 0 → 0 < x * y) ∧ (x = 0 → x * y = 0) ∧ (y = 0 → x * y = 0) := by
 refine ⟨Int.mul_pos, fun h1 h2 => Int.mul_neg_of_pos_of_neg h1 h2, fun h1 h2 => Int.mul_neg_of_neg_of_pos h1 h2, fun h1 h2 => Int.mul_pos_of_neg_of_neg h1 h2, fun h => by rw [h, Int.zero_mul], fun h => by rw [h, Int.mul_zero]⟩
theorem on_level {a b p : Int × Int} (h : crs a b p = 0) (hab : a.2 ≠ b.2) (hb : btw a.2 b.2 p.2) : OnS a b p := by
 refine ⟨h, ?_, hb⟩
 have h1 : (b.2 - a.2) * (p.1 - a.1) = (b.1 - a.1) * (p.2 - a.2) := by unfold crs at h; omega
 have h2 : (b.2 - a.2) * (b.1 - a.1) = (b.1 - a.1) * (b.2 - a.2) := Int.mul_comm _ _
 have h3 : btw 0 (b.2 - a.2) (p.2 - a.2) := by
  rcases hb with hb | hb
  ·exact .inl ⟨by omega, by omega⟩
  ·exact .inr ⟨by omega, by omega⟩
 have h4 := mono (by omega) h1 h2 h3
 rcases h4 with h4 | h4
 ·exact .inl ⟨by omega, by omega⟩
 ·exact .inr ⟨by omega, by omega⟩
theorem psv_turn (a b p : Int × Int) : psv b a p = -psv a b p := by
 unfold psv
 rw [crs_turn a b]
 generalize crs a b p = c
 repeat' split
 all_goals omega
def strip (z z' x : Int × Int) : Int := if z.2 ≤ x.2 ∧ x.2 < z'.2 ∧ crs z z' x < 0 then 1 else 0
theorem apart4 {a b z z' : Int × Int} (h : meet z z' a b = 0) : ¬ OnS z z' a ∧ ¬ OnS z z' b ∧ ¬ OnS a b z ∧ ¬ OnS a b z' ∧ ¬ (crs a b z * crs a b z' < 0 ∧ crs z z' a * crs z z' b < 0) := by
 have h0 : ¬ (M1 z z' a b ∨ XX z z' a b) := fun h' => by have := meet_pos.2 h'; omega
 refine ⟨fun h' => h0 (.inl (.inr (.inr (.inl h')))), fun h' => h0 (.inl (.inr (.inr (.inr h')))), fun h' => h0 (.inl (.inl h')), fun h' => h0 (.inl (.inr (.inl h'))), fun h' => h0 (.inr ⟨h'.2, h'.1⟩)⟩
theorem sgP {w q : Int} (hw : 0 < w) : (0 < w * q → 0 < q) ∧ (w * q < 0 → q < 0) ∧ (0 ≤ w * q → 0 ≤ q) ∧ (w * q ≤ 0 → q ≤ 0) := by
 have := mulSigns w q
 rcases Int.lt_trichotomy q 0 with h | h | h <;> omega
theorem sgN {w q : Int} (hw : w < 0) : (0 < w * q → q < 0) ∧ (w * q < 0 → 0 < q) := by
 have := mulSigns w q
 rcases Int.lt_trichotomy q 0 with h | h | h <;> omega
theorem sgPZ {w q : Int} (hw : 0 ≤ w) : (0 < w * q → 0 < q) ∧ (w * q < 0 → q < 0) := by
 have := mulSigns w q
 rcases Int.lt_trichotomy q 0 with h | h | h <;> rcases Int.lt_or_eq_of_le hw with h' | h' <;> omega
structure Quad (s t s' t' w A B P Q : Int) : Prop where
 w0 : 0 < w
 i1 : s * A - t * B = -(w * P)
 i2 : s' * A - t' * B = -(w * Q)
 no : ¬ (P * Q < 0 ∧ A * B < 0)
theorem Quad.neg {s t s' t' w A B P Q : Int} (h : Quad s t s' t' w A B P Q) : Quad s t s' t' w (-A) (-B) (-P) (-Q) :=
 ⟨h.w0, by have := h.i1; grind, by have := h.i2; grind, by have := h.no; rwa [Int.neg_mul_neg, Int.neg_mul_neg]⟩
theorem Quad.two {s t s' t' w A B P Q : Int} (h : Quad s t s' t' w A B P Q) (hs : 0 ≤ s) (ht : t < 0) (hs' : s' < 0) (ht' : t' < 0) (hP : 0 < P) (hB : 0 < B) : False := by
 have a1 := Int.mul_pos h.w0 hP
 have a2 := Int.mul_neg_of_neg_of_pos ht hB
 have i1 := h.i1
 have hA := (sgPZ hs).2 (show s * A < 0 by omega)
 have a3 := Int.mul_pos_of_neg_of_neg hs' hA
 have a4 := Int.mul_neg_of_neg_of_pos ht' hB
 have i2 := h.i2
 have hQ := (sgP h.w0).2.1 (show w * Q < 0 by omega)
 exact h.no ⟨Int.mul_neg_of_pos_of_neg hP hQ, Int.mul_neg_of_neg_of_pos hA hB⟩
theorem Quad.three {s t s' t' w A B P Q : Int} (h : Quad s t s' t' w A B P Q) (hs : 0 < s) (ht : t < 0) (hs' : 0 ≤ s') (ht' : t' < 0) (hP : 0 < P) (hQ : Q < 0) : False := by
 have a1 := Int.mul_pos h.w0 hP
 have a2 := Int.mul_neg_of_pos_of_neg h.w0 hQ
 have i1 := h.i1
 have i2 := h.i2
 have no := h.no
 have m1 := mulSigns s A
 have m2 := mulSigns t B
 have m3 := mulSigns t' B
 rcases Int.lt_trichotomy A 0 with hA | hA | hA <;> rcases Int.lt_trichotomy B 0 with hB | hB | hB
 ·have := (Int.mul_nonneg_of_nonpos_of_nonpos (a := -s') (b := A) (by omega) (by omega))
  rw [Int.neg_mul] at this
  omega
 ·have := (Int.mul_nonneg_of_nonpos_of_nonpos (a := -s') (b := A) (by omega) (by omega))
  rw [Int.neg_mul] at this
  omega
 ·exact no ⟨Int.mul_neg_of_pos_of_neg hP hQ, Int.mul_neg_of_neg_of_pos hA hB⟩
 ·have := mulSigns s' A
  omega
 ·have := mulSigns s' A
  omega
 ·omega
 ·exact no ⟨Int.mul_neg_of_pos_of_neg hP hQ, Int.mul_neg_of_pos_of_neg hA hB⟩
 ·omega
 ·omega
theorem Quad.four {s t s' t' w A B P Q : Int} (h : Quad s t s' t' w A B P Q) (hs : t ≤ s) (ht : 0 ≤ t) (hs' : s' < 0) (ht' : t' < 0) (hA : A < 0) (hB : 0 < B) (hn : t = 0 → s ≠ 0) (hk : t = 0 → P ≠ 0) : False := by
 have i1 := h.i1
 have i2 := h.i2
 have a1 := Int.mul_pos_of_neg_of_neg hs' hA
 have a2 := Int.mul_neg_of_neg_of_pos ht' hB
 have hQ := (sgP h.w0).2.1 (show w * Q < 0 by omega)
 have a3 := Int.mul_neg_of_pos_of_neg (show 0 < s by omega) hA
 have a4 := Int.mul_nonneg ht (show 0 ≤ B by omega)
 have hP := (sgP h.w0).1 (show 0 < w * P by omega)
 exact h.no ⟨Int.mul_neg_of_pos_of_neg hP hQ, Int.mul_neg_of_neg_of_pos hA hB⟩
theorem Quad.five {s t s' t' w A B P Q : Int} (h : Quad s t s' t' w A B P Q) (hs : 0 < s) (ht : 0 ≤ t) (hs' : 0 ≤ s') (ht' : t' < 0) (hQ : 0 < Q) (hA : 0 < A) : False := by
 have i1 := h.i1
 have i2 := h.i2
 have a1 := Int.mul_pos h.w0 hQ
 have a2 := Int.mul_nonneg hs' (show 0 ≤ A by omega)
 have hB := (sgN ht').1 (show 0 < t' * B by omega)
 have a3 := Int.mul_pos hs hA
 have a4 := Int.mul_nonneg ht (show 0 ≤ -B by omega)
 rw [Int.mul_neg] at a4
 have hP := (sgP h.w0).2.1 (show w * P < 0 by omega)
 exact h.no ⟨Int.mul_neg_of_neg_of_pos hP hQ, Int.mul_neg_of_pos_of_neg hA hB⟩
theorem strip_up {a b z z' : Int × Int} (hz : z.2 < z'.2) (hab : a.2 ≤ b.2) (h : meet z z' a b = 0) : psv a b z - psv a b z' = strip z z' b - strip z z' a := by
 obtain ⟨n1, n2, n3, n4, n5⟩ := apart4 h
 have k1 : z.2 ≤ a.2 → a.2 ≤ z'.2 → crs z z' a ≠ 0 := fun h1 h2 e => n1 (on_level e (by omega) (.inl ⟨h1, h2⟩))
 have k2 : z.2 ≤ b.2 → b.2 ≤ z'.2 → crs z z' b ≠ 0 := fun h1 h2 e => n2 (on_level e (by omega) (.inl ⟨h1, h2⟩))
 have k3 : a.2 < b.2 → a.2 ≤ z.2 → z.2 ≤ b.2 → crs a b z ≠ 0 := fun h0 h1 h2 e => n3 (on_level e (by omega) (.inl ⟨h1, h2⟩))
 have k4 : a.2 < b.2 → a.2 ≤ z'.2 → z'.2 ≤ b.2 → crs a b z' ≠ 0 := fun h0 h1 h2 e => n4 (on_level e (by omega) (.inl ⟨h1, h2⟩))
 have i0 : crs a b z - crs a b z' = crs z z' b - crs z z' a := by unfold crs; grind
 have i1 : (b.2 - z.2) * crs z z' a - (a.2 - z.2) * crs z z' b = -((z'.2 - z.2) * crs a b z) := by unfold crs; grind
 have i2 : (b.2 - z'.2) * crs z z' a - (a.2 - z'.2) * crs z z' b = -((z'.2 - z.2) * crs a b z') := by unfold crs; grind
 have lev : a.2 = z.2 → b.2 = z.2 → crs z z' a < 0 → 0 < crs z z' b → False := fun e1 e2 s1 s2 => by
  refine n3 ⟨by unfold crs; rw [e1, e2]; grind, ?_, .inl ⟨by omega, by omega⟩⟩
  have t1 : crs z z' a = (z'.2 - z.2) * (z.1 - a.1) := by unfold crs; rw [e1]; grind
  have t2 : crs z z' b = (z'.2 - z.2) * (z.1 - b.1) := by unfold crs; rw [e2]; grind
  rw [t1] at s1
  rw [t2] at s2
  have m1 := mulSigns (z'.2 - z.2) (z.1 - a.1)
  have m2 := mulSigns (z'.2 - z.2) (z.1 - b.1)
  unfold btw
  omega
 have lev' : a.2 = z.2 → b.2 = z.2 → 0 < crs z z' a → crs z z' b < 0 → False := fun e1 e2 s1 s2 => by
  refine n3 ⟨by unfold crs; rw [e1, e2]; grind, ?_, .inl ⟨by omega, by omega⟩⟩
  have t1 : crs z z' a = (z'.2 - z.2) * (z.1 - a.1) := by unfold crs; rw [e1]; grind
  have t2 : crs z z' b = (z'.2 - z.2) * (z.1 - b.1) := by unfold crs; rw [e2]; grind
  rw [t1] at s1
  rw [t2] at s2
  have m1 := mulSigns (z'.2 - z.2) (z.1 - a.1)
  have m2 := mulSigns (z'.2 - z.2) (z.1 - b.1)
  unfold btw
  omega
 have q : Quad (b.2 - z.2) (a.2 - z.2) (b.2 - z'.2) (a.2 - z'.2) (z'.2 - z.2) (crs z z' a) (crs z z' b) (crs a b z) (crs a b z') := ⟨by omega, i1, i2, n5⟩
 have q' := q.neg
 clear n1 n2 n3 n4 n5 h i1 i2 i0
 unfold psv strip
 generalize crs z z' a = A at *
 generalize crs z z' b = B at *
 generalize crs a b z = P at *
 generalize crs a b z' = Q at *
 generalize a.2 = ay at *
 generalize b.2 = yb at *
 generalize z.2 = zy at *
 generalize z'.2 = wy at *
 by_cases c1 : ay < zy
 ·by_cases c2 : yb < zy
  ·repeat' rw [if_neg (by omega)]
  by_cases c3 : yb < wy
  ·have e : 0 < P ↔ B < 0 := by
    refine ⟨fun hp => ?_, fun hb => ?_⟩
    ·have hb := k2 (by omega) (by omega)
     by_cases hb' : 0 < B
     ·exact (q.two (by omega) (by omega) (by omega) (by omega) hp hb').elim
     ·omega
    ·have hp := k3 (by omega) (by omega) (by omega)
     by_cases hp' : 0 < P
     ·exact hp'
     ·exact (q'.two (by omega) (by omega) (by omega) (by omega) (by omega) (by omega)).elim
   clear k1 k2 k3 k4 q q'
   by_cases hp : 0 < P
   ·have hb := e.1 hp
    rw [if_pos (by omega), if_neg (by omega), if_neg (by omega), if_pos (by omega), if_neg (by omega)]
   ·rw [if_neg (by omega), if_neg (by omega), if_neg (by omega), if_neg (by omega), if_neg (by omega), if_neg (by omega)]
  ·have e : 0 < P ↔ 0 < Q := by
    have hp := k3 (by omega) (by omega) (by omega)
    have hq := k4 (by omega) (by omega) (by omega)
    refine ⟨fun hp' => ?_, fun hq' => ?_⟩
    ·by_cases hq' : 0 < Q
     ·exact hq'
     ·exact (q.three (by omega) (by omega) (by omega) (by omega) hp' (by omega)).elim
    ·by_cases hp' : 0 < P
     ·exact hp'
     ·exact (q'.three (by omega) (by omega) (by omega) (by omega) (by omega) (by omega)).elim
   clear k1 k2 k3 k4 q q'
   by_cases hp : 0 < P
   ·have hb := e.1 hp
    rw [if_pos (by omega), if_pos (by omega), if_neg (by omega), if_neg (by omega)]
    omega
   ·rw [if_neg (by omega), if_neg (by omega), if_neg (by omega), if_neg (by omega), if_neg (by omega), if_neg (by omega)]
 by_cases c2 : wy ≤ ay
 ·rw [if_neg (by omega), if_neg (by omega), if_neg (by omega), if_neg (by omega), if_neg (by omega), if_neg (by omega)]
 have hA := k1 (by omega) (by omega)
 by_cases c3 : yb < wy
 ·have hB := k2 (by omega) (by omega)
  have e : A < 0 ↔ B < 0 := by
   refine ⟨fun ha => ?_, fun hb => ?_⟩
   ·by_cases hb : B < 0
    ·exact hb
    ·exact (q.four (by omega) (by omega) (by omega) (by omega) ha (by omega) (fun e1 e2 => lev (by omega) (by omega) ha (by omega)) (fun e1 e2 => by
      by_cases e3 : yb = zy
      ·exact lev (by omega) (by omega) ha (by omega)
      ·exact k3 (by omega) (by omega) (by omega) e2)).elim
   ·by_cases ha : A < 0
    ·exact ha
    ·exact (q'.four (by omega) (by omega) (by omega) (by omega) (by omega) (by omega) (fun e1 e2 => lev' (by omega) (by omega) (by omega) hb) (fun e1 e2 => by
      by_cases e3 : yb = zy
      ·exact lev' (by omega) (by omega) (by omega) hb
      ·exact k3 (by omega) (by omega) (by omega) (by omega))).elim
  clear k1 k2 k3 k4 q q' lev lev'
  by_cases ha : A < 0
  ·have hb := e.1 ha
   rw [if_neg (by omega), if_neg (by omega), if_neg (by omega), if_neg (by omega), if_pos (by omega), if_pos (by omega)]
   omega
  ·rw [if_neg (by omega), if_neg (by omega), if_neg (by omega), if_neg (by omega), if_neg (by omega), if_neg (by omega)]
 ·have hQ := k4 (by omega) (by omega) (by omega)
  have e : 0 < Q ↔ A < 0 := by
   refine ⟨fun hq => ?_, fun ha => ?_⟩
   ·by_cases ha : A < 0
    ·exact ha
    ·exact (q.five (by omega) (by omega) (by omega) (by omega) hq (by omega)).elim
   ·by_cases hq : 0 < Q
    ·exact hq
    ·exact (q'.five (by omega) (by omega) (by omega) (by omega) (by omega) (by omega)).elim
  clear k1 k2 k3 k4 q q' lev lev'
  by_cases hq : 0 < Q
  ·have ha := e.1 hq
   rw [if_neg (by omega), if_neg (by omega), if_pos (by omega), if_neg (by omega), if_pos (by omega)]
  ·rw [if_neg (by omega), if_neg (by omega), if_neg (by omega), if_neg (by omega), if_neg (by omega), if_neg (by omega)]
theorem strip_any {a b z z' : Int × Int} (hz : z.2 < z'.2) (h : meet z z' a b = 0) (h' : meet z z' b a = 0) : psv a b z - psv a b z' = strip z z' b - strip z z' a := by
 by_cases hab : a.2 ≤ b.2
 ·exact strip_up hz hab h
 ·have := strip_up hz (a := b) (b := a) (by omega) h'
  rw [psv_turn a b, psv_turn a b] at this
  omega
theorem strip_lev {a b z z' : Int × Int} (hz : z.2 = z'.2) (h : meet z z' a b = 0) (h' : meet z z' b a = 0) : psv a b z = psv a b z' := by
 have key : ∀ a b : Int × Int, a.2 ≤ b.2 → meet z z' a b = 0 → psv a b z = psv a b z' := by
  intro a b hab h
  obtain ⟨n1, n2, n3, n4, n5⟩ := apart4 h
  have k3 : a.2 < b.2 → a.2 ≤ z.2 → z.2 ≤ b.2 → crs a b z ≠ 0 := fun h0 h1 h2 e => n3 (on_level e (by omega) (.inl ⟨h1, h2⟩))
  have k4 : a.2 < b.2 → a.2 ≤ z.2 → z.2 ≤ b.2 → crs a b z' ≠ 0 := fun h0 h1 h2 e => n4 (on_level e (by omega) (.inl ⟨by omega, by omega⟩))
  have i0 : crs z z' a = (z'.1 - z.1) * (a.2 - z.2) := by unfold crs; rw [hz]; grind
  have i1 : crs z z' b = (z'.1 - z.1) * (b.2 - z.2) := by unfold crs; rw [hz]; grind
  have i2 : crs a b z - crs a b z' = (z'.1 - z.1) * (b.2 - a.2) := by unfold crs; rw [hz]; grind
  have sign : ∀ P Q : Int, P ≠ 0 → Q ≠ 0 → (0 < P → 0 < Q → False) → (P < 0 → Q < 0 → False) → P * Q < 0 := by
   intro P Q h1 h2 h3 h4
   rcases Int.lt_or_gt_of_ne h1 with h | h <;> rcases Int.lt_or_gt_of_ne h2 with h' | h'
   ·exact (h4 h h').elim
   ·exact Int.mul_neg_of_neg_of_pos h h'
   ·exact Int.mul_neg_of_pos_of_neg h h'
   ·exact (h3 h h').elim
  by_cases c : a.2 < z.2 ∧ z.2 ≤ b.2
  ·have e : 0 < crs a b z ↔ 0 < crs a b z' := by
    have p1 := k3 (by omega) (by omega) (by omega)
    have p2 := k4 (by omega) (by omega) (by omega)
    by_cases n : crs a b z * crs a b z' < 0
    ·exfalso
     by_cases c2 : z.2 = b.2
     ·-- the edge's upper end is at their level, and between them
      refine n2 ⟨by rw [i1]; rw [c2, Int.sub_self, Int.mul_zero], ?_, .inl ⟨by omega, by omega⟩⟩
      have e1 : crs a b z = (b.1 - z.1) * (b.2 - a.2) := by unfold crs; rw [c2]; grind
      have e2 : crs a b z' = (b.1 - z'.1) * (b.2 - a.2) := by unfold crs; rw [← hz, c2]; grind
      have m1 := mulSigns (b.1 - z.1) (b.2 - a.2)
      have m2 := mulSigns (b.1 - z'.1) (b.2 - a.2)
      have m3 := mulSigns (crs a b z) (crs a b z')
      have m4 := Int.mul_nonneg (a := crs a b z) (b := crs a b z')
      have m5 := Int.mul_nonneg_of_nonpos_of_nonpos (a := crs a b z) (b := crs a b z')
      rcases Int.lt_or_gt_of_ne p1 with s1 | s1 <;> rcases Int.lt_or_gt_of_ne p2 with s2 | s2
      ·have := m3.2.2.2.1 s1 s2; omega
      ·have t1 : b.1 - z.1 < 0 := by
        rcases Int.lt_trichotomy (b.1 - z.1) 0 with t | t | t
        ·exact t
        ·rw [e1, t, Int.zero_mul] at s1; omega
        ·have := m1.1 t (by omega); omega
       have t2 : 0 < b.1 - z'.1 := by
        rcases Int.lt_trichotomy (b.1 - z'.1) 0 with t | t | t
        ·have := m2.2.2.1 t (by omega); omega
        ·rw [e2, t, Int.zero_mul] at s2; omega
        ·exact t
       exact .inr ⟨by omega, by omega⟩
      ·have t1 : 0 < b.1 - z.1 := by
        rcases Int.lt_trichotomy (b.1 - z.1) 0 with t | t | t
        ·have := m1.2.2.1 t (by omega); omega
        ·rw [e1, t, Int.zero_mul] at s1; omega
        ·exact t
       have t2 : b.1 - z'.1 < 0 := by
        rcases Int.lt_trichotomy (b.1 - z'.1) 0 with t | t | t
        ·exact t
        ·rw [e2, t, Int.zero_mul] at s2; omega
        ·have := m2.1 t (by omega); omega
       exact .inl ⟨by omega, by omega⟩
      ·have := m3.1 s1 s2; omega
     ·refine n5 ⟨n, ?_⟩
      have hd : z'.1 - z.1 ≠ 0 := fun hd => by
       rw [hd, Int.zero_mul] at i2
       have : crs a b z = crs a b z' := by omega
       rw [this] at n
       have m3 := mulSigns (crs a b z') (crs a b z')
       omega
      rw [i0, i1]
      have m1 := mulSigns (z'.1 - z.1) (a.2 - z.2)
      have m2 := mulSigns (z'.1 - z.1) (b.2 - z.2)
      rcases Int.lt_or_gt_of_ne hd with s1 | s1
      ·exact Int.mul_neg_of_pos_of_neg (m1.2.2.2.1 s1 (by omega)) (m2.2.2.1 s1 (by omega))
      ·exact Int.mul_neg_of_neg_of_pos (m1.2.1 s1 (by omega)) (m2.1 s1 (by omega))
    ·have m3 := mulSigns (crs a b z) (crs a b z')
     rcases Int.lt_or_gt_of_ne p1 with s1 | s1 <;> rcases Int.lt_or_gt_of_ne p2 with s2 | s2
     ·omega
     ·exact (n (m3.2.2.1 s1 s2)).elim
     ·exact (n (m3.2.1 s1 s2)).elim
     ·omega
   unfold psv
   by_cases hp : 0 < crs a b z
   ·have := e.1 hp
    rw [if_pos ⟨c.1, c.2, hp⟩, if_pos ⟨by omega, by omega, this⟩]
   ·have : ¬ 0 < crs a b z' := fun h' => hp (e.2 h')
    rw [if_neg (fun h' => hp h'.2.2), if_neg (by omega), if_neg (fun h' => this h'.2.2), if_neg (by omega)]
  ·unfold psv
   rw [if_neg (by omega), if_neg (by omega), if_neg (by omega), if_neg (by omega)]
 by_cases hab : a.2 ≤ b.2
 ·exact key a b hab h
 ·have := key b a (by omega) h'
  rw [psv_turn a b, psv_turn a b] at this
  omega
def wnd (e : Nat → Int × Int) (n : Nat) (p : Int × Int) : Int := sumTo (fun i => psv (e i) (e (i + 1)) p) n
theorem wind_wnd (r : List (Int × Int)) (p : Int × Int) : wind r p = wnd (nx r) r.length p := rfl
theorem sumTo_sub (f g : Nat → Int) : ∀ n, sumTo (fun i => f i - g i) n = sumTo f n - sumTo g n
 |0 => rfl
 |n + 1 => by rw [sumTo, sumTo, sumTo, sumTo_sub f g n]; omega
def psl (a b p : Int × Int) : Int := if a.2 ≤ p.2 ∧ p.2 < b.2 ∧ 0 < crs a b p then 1 else if b.2 ≤ p.2 ∧ p.2 < a.2 ∧ crs a b p < 0 then -1 else 0
def lev1 (p c : Int × Int) : Int := if c.2 = p.2 ∧ p.1 < c.1 then 1 else 0
theorem psl_turn (a b p : Int × Int) : psl b a p = -psl a b p := by
 unfold psl
 rw [crs_turn a b]
 generalize crs a b p = c
 repeat' split
 all_goals omega
theorem psl_odd (a b p : Int × Int) : psl a b p % 2 = if cutB a b p then 1 else 0 := by
 unfold psl cutB
 rw [crs_turn a b]
 generalize crs a b p = c
 by_cases h : b.2 < a.2
 ·rw [if_pos h]
  by_cases h1 : b.2 ≤ p.2 ∧ p.2 < a.2 ∧ 0 < -c
  ·rw [if_neg (by omega), if_pos (by omega), if_pos (by simpa using h1)] <;> rfl
  ·rw [if_neg (by omega), if_neg (by omega), if_neg (by simpa using h1)] <;> rfl
 ·rw [if_neg h]
  by_cases h1 : a.2 ≤ p.2 ∧ p.2 < b.2 ∧ 0 < c
  ·rw [if_pos (by omega), if_pos (by simpa using h1)] <;> rfl
  ·rw [if_neg (by omega), if_neg (by omega), if_neg (by simpa using h1)] <;> rfl
theorem psv_psl {a b p : Int × Int} (h : ¬ OnS a b p) : psv a b p - psl a b p = lev1 p b - lev1 p a := by
 have key : ∀ a b : Int × Int, a.2 ≤ b.2 → ¬ OnS a b p → psv a b p - psl a b p = lev1 p b - lev1 p a := by
  intro a b hab h
  have m1 := mulSigns (b.2 - a.2) (b.1 - p.1)
  have m2 := mulSigns (b.2 - a.2) (a.1 - p.1)
  have e1 : p.2 = b.2 → crs a b p = (b.2 - a.2) * (b.1 - p.1) := fun e => by unfold crs; rw [e]; grind
  have e2 : p.2 = a.2 → crs a b p = (b.2 - a.2) * (a.1 - p.1) := fun e => by unfold crs; rw [e]; grind
  by_cases c1 : a.2 = b.2
  ·have e3 : p.2 = a.2 → (p.1 < a.1 ↔ p.1 < b.1) := fun e => by
    by_cases hb : btw a.1 b.1 p.1
    ·exact (h ⟨by rw [e2 e, show b.2 - a.2 = 0 by omega, Int.zero_mul], hb, .inl ⟨by omega, by omega⟩⟩).elim
    ·unfold btw at hb; omega
   unfold psv psl lev1
   rw [if_neg (by omega), if_neg (by omega), if_neg (by omega), if_neg (by omega)]
   by_cases c2 : p.2 = a.2
   ·have := e3 c2
    by_cases c3 : p.1 < a.1
    ·rw [if_pos (by omega), if_pos (by omega)] <;> rfl
    ·rw [if_neg (by omega), if_neg (by omega)] <;> rfl
   ·rw [if_neg (by omega), if_neg (by omega)] <;> rfl
  ·unfold psv psl lev1
   by_cases c2 : p.2 = b.2
   ·have f1 := e1 c2
    rw [← f1] at m1
    by_cases c3 : p.1 < b.1
    ·rw [if_pos (by omega), if_neg (by omega), if_neg (by omega), if_pos (by omega), if_neg (by omega)] <;> rfl
    ·rw [if_neg (by omega), if_neg (by omega), if_neg (by omega), if_neg (by omega), if_neg (by omega), if_neg (by omega)] <;> rfl
   by_cases c4 : p.2 = a.2
   ·have f1 := e2 c4
    rw [← f1] at m2
    by_cases c3 : p.1 < a.1
    ·rw [if_neg (by omega), if_neg (by omega), if_pos (by omega), if_neg (by omega), if_pos (by omega)] <;> rfl
    ·rw [if_neg (by omega), if_neg (by omega), if_neg (by omega), if_neg (by omega), if_neg (by omega), if_neg (by omega)] <;> rfl
   generalize crs a b p = c at *
   rw [if_neg (show ¬ (b.2 = p.2 ∧ _) by omega), if_neg (show ¬ (a.2 = p.2 ∧ _) by omega)]
   by_cases c5 : a.2 < p.2 ∧ p.2 ≤ b.2 ∧ 0 < c
   ·rw [if_pos c5, if_pos (by omega)] <;> rfl
   ·rw [if_neg c5, if_neg (by omega), if_neg (by omega), if_neg (by omega)] <;> rfl
 by_cases hab : a.2 ≤ b.2
 ·exact key a b hab h
 ·have := key b a (by omega) (fun h' => h (on_turn.1 h'))
  rw [psv_turn a b, psl_turn a b] at this
  omega
theorem odd_sum {f : Nat → Int} {g : Nat → Bool} (h : ∀ i, f i % 2 = if g i then 1 else 0) : ∀ n, sumTo f n % 2 = if oddTo g n then 1 else 0
 |0 => rfl
 |n + 1 => by
  have h1 := odd_sum h n
  have h2 := h n
  rw [sumTo, oddTo]
  have key : ∀ x y : Bool, ∀ u v : Int, (u % 2 = if x then 1 else 0) → (v % 2 = if y then 1 else 0) → (u + v) % 2 = if (x ^^ y) then 1 else 0 := by
   intro x y u v h1 h2
   cases x <;> cases y
   ·exact (by have h1 : u % 2 = 0 := h1; have h2 : v % 2 = 0 := h2; omega : (u + v) % 2 = 0)
   ·exact (by have h1 : u % 2 = 0 := h1; have h2 : v % 2 = 1 := h2; omega : (u + v) % 2 = 1)
   ·exact (by have h1 : u % 2 = 1 := h1; have h2 : v % 2 = 0 := h2; omega : (u + v) % 2 = 1)
   ·exact (by have h1 : u % 2 = 1 := h1; have h2 : v % 2 = 1 := h2; omega : (u + v) % 2 = 0)
  exact key _ _ _ _ h1 h2
theorem wind_odd {r : List (Int × Int)} {p : Int × Int} (h : ¬ onRim r p) : wind r p % 2 = if oddTo (fun i => cutB (nx r i) (nx r (i + 1)) p) r.length then 1 else 0 := by
 have h1 : sumTo (fun i => psv (nx r i) (nx r (i + 1)) p - psl (nx r i) (nx r (i + 1)) p) r.length = 0 := by
  rw [sumTo_ext (g := fun i => lev1 p (nx r (i + 1)) - lev1 p (nx r i)) _ (fun i hi => psv_psl fun h' => h ⟨i, hi, h'⟩)]
  rw [tele (fun i => lev1 p (nx r i))]
  have := nx_per r 0
  rw [Nat.zero_add] at this
  rw [this]
  omega
 rw [sumTo_sub] at h1
 have h2 := odd_sum (f := fun i => psl (nx r i) (nx r (i + 1)) p) (g := fun i => cutB (nx r i) (nx r (i + 1)) p) (fun i => psl_odd _ _ _) r.length
 unfold wind
 rw [← h2]
 omega
theorem way_rise {e : Nat → Int × Int} {z z' : Int × Int} (hz : z.2 < z'.2) : ∀ n, (∀ i, i < n → meet z z' (e i) (e (i + 1)) = 0) → wnd e n z - wnd e n z' = strip z z' (e n) - strip z z' (e 0)
 |0, _ => by unfold wnd; rw [sumTo, sumTo]; omega
 |n + 1, h => by
  have h1 := way_rise hz n (fun i hi => h i (by omega))
  have h2 := strip_any hz (h n (by omega)) (by rw [← meet_swap, meet_turn, meet_swap]; exact h n (by omega))
  unfold wnd at *
  rw [sumTo, sumTo]
  omega
theorem way_flat {e : Nat → Int × Int} {z z' : Int × Int} (hz : z.2 = z'.2) : ∀ n, (∀ i, i < n → meet z z' (e i) (e (i + 1)) = 0) → wnd e n z = wnd e n z'
 |0, _ => rfl
 |n + 1, h => by
  have h1 := way_flat hz n (fun i hi => h i (by omega))
  have h2 := strip_lev hz (h n (by omega)) (by rw [← meet_swap, meet_turn, meet_swap]; exact h n (by omega))
  unfold wnd at *
  rw [sumTo, sumTo]
  omega
theorem way_same {e : Nat → Int × Int} {n : Nat} {z z' : Int × Int} (hc : e n = e 0) (h : ∀ i, i < n → meet z z' (e i) (e (i + 1)) = 0) : wnd e n z = wnd e n z' := by
 rcases Int.lt_trichotomy z.2 z'.2 with hz | hz | hz
 ·have := way_rise hz n h
  rw [hc] at this
  omega
 ·exact way_flat hz n h
 ·have := way_rise (e := e) hz n (fun i hi => by rw [meet_turn]; exact h i hi)
  rw [hc] at this
  omega
def mulp (m : Int) (p : Int × Int) : Int × Int := (m * p.1, m * p.2)
theorem crs_mulp (m : Int) (a b p : Int × Int) : crs (mulp m a) (mulp m b) (mulp m p) = m * m * crs a b p := by unfold crs mulp; grind
theorem mul_lt_iff {m x y : Int} (hm : 0 < m) : m * x < m * y ↔ x < y := ⟨fun h => Int.lt_of_mul_lt_mul_left h (by omega), fun h => Int.mul_lt_mul_of_pos_left h hm⟩
theorem mul_le_iff {m x y : Int} (hm : 0 < m) : m * x ≤ m * y ↔ x ≤ y := ⟨fun h => Int.le_of_mul_le_mul_left h hm, fun h => Int.mul_le_mul_of_nonneg_left h (by omega)⟩
theorem mul_pos_iff' {m x : Int} (hm : 0 < m) : 0 < m * x ↔ 0 < x := by have := mul_lt_iff (x := 0) (y := x) hm; rwa [Int.mul_zero] at this
theorem mul_neg_iff' {m x : Int} (hm : 0 < m) : m * x < 0 ↔ x < 0 := by have := mul_lt_iff (x := x) (y := 0) hm; rwa [Int.mul_zero] at this
theorem mul_zero_iff' {m x : Int} (hm : 0 < m) : m * x = 0 ↔ x = 0 := by
 have h1 := mul_pos_iff' (x := x) hm
 have h2 := mul_neg_iff' (x := x) hm
 omega
theorem psv_mulp {m : Int} (hm : 0 < m) (a b p : Int × Int) : psv (mulp m a) (mulp m b) (mulp m p) = psv a b p := by
 have hmm := Int.mul_pos hm hm
 unfold psv
 rw [crs_mulp]
 simp only [mul_pos_iff' hmm, mul_neg_iff' hmm]
 unfold mulp
 simp only [mul_lt_iff hm, mul_le_iff hm]
theorem wnd_mulp {m : Int} (hm : 0 < m) (e : Nat → Int × Int) (n : Nat) (p : Int × Int) : wnd (fun i => mulp m (e i)) n (mulp m p) = wnd e n p := by
 unfold wnd
 exact sumTo_ext _ fun i _ => psv_mulp hm _ _ _
theorem on_mulp {m : Int} (hm : 0 < m) {a b p : Int × Int} : OnS (mulp m a) (mulp m b) (mulp m p) ↔ OnS a b p := by
 have hmm := Int.mul_pos hm hm
 unfold OnS
 rw [crs_mulp, mul_zero_iff' hmm]
 unfold btw mulp
 simp only [mul_le_iff hm]
theorem mulp_inj {m : Int} (hm : 0 < m) {a b : Int × Int} : mulp m a = mulp m b ↔ a = b := by
 constructor
 ·intro h
  have h1 := congrArg Prod.fst h
  have h2 := congrArg Prod.snd h
  exact Prod.ext (Int.eq_of_mul_eq_mul_left (by omega) h1) (Int.eq_of_mul_eq_mul_left (by omega) h2)
 ·rintro rfl; rfl
theorem mulp_mulp (m k : Int) (p : Int × Int) : mulp m (mulp k p) = mulp (m * k) p := by unfold mulp; simp only [Int.mul_assoc]
theorem meet_mulp {m : Int} (hm : 0 < m) (a b c d : Int × Int) : meet (mulp m a) (mulp m b) (mulp m c) (mulp m d) = meet a b c d := by
 refine meet_of ?_ ?_ ?_
 ·unfold M3; simp only [on_mulp hm, ne_eq, mulp_inj hm]
 ·unfold M1; simp only [on_mulp hm]
 ·have hmm := Int.mul_pos hm hm
  have h4 := Int.mul_pos hmm hmm
  unfold XX
  simp only [crs_mulp]
  rw [show m * m * crs a b c * (m * m * crs a b d) = m * m * (m * m) * (crs a b c * crs a b d) by grind, show m * m * crs c d a * (m * m * crs c d b) = m * m * (m * m) * (crs c d a * crs c d b) by grind, mul_neg_iff' h4, mul_neg_iff' h4]
theorem apart_side {a b z z' : Int × Int} (h1 : 0 < crs a b z) (h2 : 0 < crs a b z') : meet z z' a b = 0 := by
 have hb := meet_bound (a := z) (b := z') (c := a) (d := b)
 have hn : ¬ (M1 z z' a b ∨ XX z z' a b) := by
  have onz : ∀ x, crs a b x = 0 → ¬ OnS z z' x := fun x hx ho => by
   have e1 : x ≠ z := fun e => by rw [e] at hx; omega
   have e2 : x ≠ z' := fun e => by rw [e] at hx; omega
   rcases within ho e1 e2 hx with h | h
   ·omega
   ·have := Int.mul_pos h1 h2
    omega
  rintro ((h | h | h | h) | h)
  ·have := h.1; omega
  ·have := h.1; omega
  ·exact onz a (crs_aba a b) h
  ·exact onz b (crs_abb a b) h
  ·have := Int.mul_pos h1 h2
   have := h.2
   omega
 have := mt meet_pos.1 hn
 omega
theorem box_core {P Q A B fz fz' fa fb m : Int} (e : P * fz' - Q * fz = B * fa - A * fb) (d : P - Q = B - A) (h1 : P * Q < 0) (h2 : A * B < 0) (z1 : m < fz) (z2 : m < fz') (a1 : fa ≤ m) (b1 : fb ≤ m) : False := by
 have key : ∀ P Q A B : Int, P * fz' - Q * fz = B * fa - A * fb → P - Q = B - A → 0 < P → Q < 0 → A * B < 0 → False := by
  intro P Q A B e d hP hQ h2
  have hAB : A < 0 ∧ 0 < B := by rcases mul_signs h2 with h | h <;> omega
  have t1 := Int.mul_le_mul_of_nonneg_left (show m + 1 ≤ fz' by omega) (show 0 ≤ P by omega)
  have t2 := Int.mul_le_mul_of_nonneg_left (show m + 1 ≤ fz by omega) (show 0 ≤ -Q by omega)
  have t3 := Int.mul_le_mul_of_nonneg_left a1 (show 0 ≤ B by omega)
  have t4 := Int.mul_le_mul_of_nonneg_left b1 (show 0 ≤ -A by omega)
  have t5 : P * (m + 1) + -Q * (m + 1) = (P - Q) * (m + 1) := by grind
  have t6 : B * m + -A * m = (B - A) * m := by grind
  rw [d] at t5
  have t7 : (B - A) * (m + 1) = (B - A) * m + (B - A) := by grind
  simp only [Int.neg_mul] at t2 t4 t5 t6
  omega
 rcases mul_signs h1 with h | h
 ·refine key (-P) (-Q) (-A) (-B) ?_ ?_ ?_ ?_ ?_
  ·simp only [Int.neg_mul]; omega
  ·omega
  ·omega
  ·omega
  ·rwa [Int.neg_mul_neg]
 ·exact key P Q A B e d h.1 h.2 h2 |>.elim
theorem apart_box {a b z z' : Int × Int} (f : Int × Int → Int) (hf : f = Prod.fst ∨ f = Prod.snd ∨ (f = fun x => -x.1) ∨ (f = fun x => -x.2)) {m : Int} (z1 : m < f z) (z2 : m < f z') (a1 : f a ≤ m) (b1 : f b ≤ m) : meet z z' a b = 0 := by
 have hb := meet_bound (a := z) (b := z') (c := a) (d := b)
 have hn : ¬ (M1 z z' a b ∨ XX z z' a b) := by
  have on1 : ∀ x y p, OnS x y p → (f x ≤ f p ∨ f y ≤ f p) ∧ (f p ≤ f x ∨ f p ≤ f y) := fun x y p h => by
   have h1 := h.2.1
   have h2 := h.2.2
   unfold btw at h1 h2
   rcases hf with e | e | e | e <;> subst e <;> (try simp only) <;> omega
  rintro ((h | h | h | h) | h)
  ·have := on1 _ _ _ h; omega
  ·have := on1 _ _ _ h; omega
  ·have := on1 _ _ _ h; omega
  ·have := on1 _ _ _ h; omega
  ·have e1 : crs a b z * z'.1 - crs a b z' * z.1 = crs z z' b * a.1 - crs z z' a * b.1 := by unfold crs; grind
   have e2 : crs a b z * z'.2 - crs a b z' * z.2 = crs z z' b * a.2 - crs z z' a * b.2 := by unfold crs; grind
   have d : crs a b z - crs a b z' = crs z z' b - crs z z' a := by unfold crs; grind
   have e : crs a b z * f z' - crs a b z' * f z = crs z z' b * f a - crs z z' a * f b := by
    rcases hf with e | e | e | e <;> subst e <;> (try simp only [Int.mul_neg]) <;> omega
   exact box_core e d h.2 h.1 z1 z2 a1 b1
 have := mt meet_pos.1 hn
 omega
theorem far_one {a b v : Int × Int} (h : ¬ OnS a b v) (U W : Int × Int) : ∃ K : Int, ∀ M, K ≤ M → meet (mvd (mulp M v) U) (mvd (mulp M v) W) (mulp M a) (mulp M b) = 0 := by
 by_cases hc : crs a b v = 0
 ·have hbox : ∀ f : Int × Int → Int, (f = Prod.fst ∨ f = Prod.snd ∨ (f = fun x => -x.1) ∨ (f = fun x => -x.2)) → f a < f v → f b < f v → ∃ K : Int, ∀ M, K ≤ M → meet (mvd (mulp M v) U) (mvd (mulp M v) W) (mulp M a) (mulp M b) = 0 := by
   intro f hf h1 h2
   have fm : ∀ M x, f (mulp M x) = M * f x := fun M x => by rcases hf with e | e | e | e <;> subst e <;> simp [mulp, Int.mul_neg]
   have fv : ∀ d x, f (mvd d x) = f x + f d := fun d x => by rcases hf with e | e | e | e <;> subst e <;> simp only [mvd] <;> (try omega)
   refine ⟨1 + (f U).natAbs + (f W).natAbs, fun M hM => ?_⟩
   have t1 := Int.mul_le_mul_of_nonneg_left (show f a ≤ f v - 1 by omega) (show 0 ≤ M by omega)
   have t2 := Int.mul_le_mul_of_nonneg_left (show f b ≤ f v - 1 by omega) (show 0 ≤ M by omega)
   have t3 : M * (f v - 1) = M * f v - M := by grind
   refine apart_box f hf (m := M * f v - M) ?_ ?_ ?_ ?_
   ·rw [fv, fm]; omega
   ·rw [fv, fm]; omega
   ·rw [fm]; omega
   ·rw [fm]; omega
  by_cases hx : btw a.1 b.1 v.1
  ·have hy : ¬ btw a.2 b.2 v.2 := fun hy => h ⟨hc, hx, hy⟩
   unfold btw at hy
   by_cases h1 : a.2 < v.2
   ·exact hbox Prod.snd (.inr (.inl rfl)) (by (try simp only); omega) (by (try simp only); omega)
   ·exact hbox (fun x => -x.2) (.inr (.inr (.inr rfl))) (by (try simp only); omega) (by (try simp only); omega)
  ·unfold btw at hx
   by_cases h1 : a.1 < v.1
   ·exact hbox Prod.fst (.inl rfl) (by (try simp only); omega) (by (try simp only); omega)
   ·exact hbox (fun x => -x.1) (.inr (.inr (.inl rfl))) (by (try simp only); omega) (by (try simp only); omega)
 ·have key : ∀ a b : Int × Int, 0 < crs a b v → ∃ K : Int, ∀ M, K ≤ M → meet (mvd (mulp M v) U) (mvd (mulp M v) W) (mulp M a) (mulp M b) = 0 := by
   intro a b hc
   have e : ∀ M X, crs (mulp M a) (mulp M b) (mvd (mulp M v) X) = M * (M * crs a b v + crs (0, 0) (b.1 - a.1, b.2 - a.2) X) := fun M X => by unfold crs mulp mvd; grind
   refine ⟨1 + (crs (0, 0) (b.1 - a.1, b.2 - a.2) U).natAbs + (crs (0, 0) (b.1 - a.1, b.2 - a.2) W).natAbs, fun M hM => ?_⟩
   have t := Int.mul_le_mul_of_nonneg_left (show 1 ≤ crs a b v by omega) (show 0 ≤ M by omega)
   refine apart_side ?_ ?_
   ·rw [e]; exact Int.mul_pos (by omega) (by omega)
   ·rw [e]; exact Int.mul_pos (by omega) (by omega)
  by_cases h1 : 0 < crs a b v
  ·exact key a b h1
  ·obtain ⟨K, hK⟩ := key b a (by rw [crs_turn]; omega)
   exact ⟨K, fun M hM => by rw [← meet_swap, meet_turn, meet_swap]; exact hK M hM⟩
theorem far_all {P : Nat → Int → Prop} (h : ∀ i, ∃ K : Int, ∀ M, K ≤ M → P i M) : ∀ n : Nat, ∃ K : Int, ∀ M, K ≤ M → ∀ i, i < n → P i M
 |0 => ⟨0, fun _ _ _ hi => absurd hi (by omega)⟩
 |n + 1 => by
  obtain ⟨K1, h1⟩ := far_all h n
  obtain ⟨K2, h2⟩ := h n
  refine ⟨1 + K1.natAbs + K2.natAbs, fun M hM i hi => ?_⟩
  by_cases hn : i = n
  ·rw [hn]; exact h2 M (by omega)
  ·exact h1 M (by omega) i (by omega)
def upw (a b : Int × Int) : Int := if a.2 < b.2 ∨ (a.2 = b.2 ∧ a.1 < b.1) then 1 else 0
def rise (z z' x y : Int × Int) : Int := if z.2 < z'.2 then strip z z' y - strip z z' x else if z'.2 < z.2 then strip z' z x - strip z' z y else 0
theorem way_any {e : Nat → Int × Int} {z z' : Int × Int} (n : Nat) (h : ∀ i, i < n → meet z z' (e i) (e (i + 1)) = 0) : wnd e n z - wnd e n z' = rise z z' (e 0) (e n) := by
 unfold rise
 rcases Int.lt_trichotomy z.2 z'.2 with hz | hz | hz
 ·rw [if_pos hz]; exact way_rise hz n h
 ·rw [if_neg (by omega), if_neg (by omega), way_flat hz n h]; omega
 ·rw [if_neg (by omega), if_pos hz]
  have := way_rise (e := e) hz n (fun i hi => by rw [meet_turn]; exact h i hi)
  omega
theorem corner_k {u1 u2 w1 w2 : Int} (hu : u2 = 0 → u1 ≠ 0) : u2 = 0 → ((0 < w2 → (w1 * u2 - w2 * u1 < 0 ↔ 0 < u1) ∧ (0 < w1 * u2 - w2 * u1 ↔ u1 < 0)) ∧ (w2 < 0 → (w1 * u2 - w2 * u1 < 0 ↔ u1 < 0) ∧ (0 < w1 * u2 - w2 * u1 ↔ 0 < u1))) := by
 intro h
 have hu := hu h
 have n2 := mulSigns w2 u1
 rw [h, Int.mul_zero]
 generalize w2 * u1 = v at *
 rcases Int.lt_or_gt_of_ne hu with h1 | h1 <;> rcases Int.lt_trichotomy w2 0 with h2 | h2 | h2 <;> simp only [h1, h2, true_implies] at n2 <;> omega
set_option maxHeartbeats 2000000 in
theorem corner {U W : Int × Int} {M : Int} (hM : 2 ≤ M) (m1 : U.2 < M) (m2 : -U.2 < M) (m3 : W.2 < M) (m4 : -W.2 < M) (hU : U ≠ (0, 0)) (hW : W ≠ (0, 0))
  (hd : W.1 * U.2 - W.2 * U.1 = 0 → (0 < U.2 ∧ W.2 < 0) ∨ (U.2 < 0 ∧ 0 < W.2) ∨ (U.2 = 0 ∧ W.2 = 0 ∧ (0 < U.1 ∧ W.1 < 0 ∨ U.1 < 0 ∧ 0 < W.1))) :
  psv (0, 0) (mulp M W) U + rise U W (mulp M W) (mulp M U) + upw U (0, 0) = psv (mulp M U) (0, 0) W + upw (0, 0) W := by
 have e1 : crs (0, 0) (mulp M W) U = M * (W.1 * U.2 - W.2 * U.1) := by unfold crs mulp; grind
 have e2 : crs (mulp M U) (0, 0) W = M * (W.1 * U.2 - W.2 * U.1) := by unfold crs mulp; grind
 have e3 : crs U W (mulp M U) = (M - 1) * (W.1 * U.2 - W.2 * U.1) := by unfold crs mulp; grind
 have e4 : crs U W (mulp M W) = (M - 1) * (W.1 * U.2 - W.2 * U.1) := by unfold crs mulp; grind
 have e5 : crs W U (mulp M U) = (M - 1) * -(W.1 * U.2 - W.2 * U.1) := by unfold crs mulp; grind
 have e6 : crs W U (mulp M W) = (M - 1) * -(W.1 * U.2 - W.2 * U.1) := by unfold crs mulp; grind
 have hU' : U.2 = 0 → U.1 ≠ 0 := fun h h' => hU (Prod.ext h' h)
 have hW' : W.2 = 0 → W.1 ≠ 0 := fun h h' => hW (Prod.ext h' h)
 have n1 := mulSigns W.1 U.2
 have n2 := mulSigns W.2 U.1
 have sU : (0 < U.2 → M ≤ M * U.2) ∧ (U.2 < 0 → M * U.2 ≤ -M) ∧ (U.2 = 0 → M * U.2 = 0) := by
  refine ⟨fun h => ?_, fun h => ?_, fun h => by rw [h, Int.mul_zero]⟩
  ·have := Int.mul_le_mul_of_nonneg_left (show 1 ≤ U.2 by omega) (show 0 ≤ M by omega); omega
  ·have := Int.mul_le_mul_of_nonneg_left (show U.2 ≤ -1 by omega) (show 0 ≤ M by omega); omega
 have sW : (0 < W.2 → M ≤ M * W.2) ∧ (W.2 < 0 → M * W.2 ≤ -M) ∧ (W.2 = 0 → M * W.2 = 0) := by
  refine ⟨fun h => ?_, fun h => ?_, fun h => by rw [h, Int.mul_zero]⟩
  ·have := Int.mul_le_mul_of_nonneg_left (show 1 ≤ W.2 by omega) (show 0 ≤ M by omega); omega
  ·have := Int.mul_le_mul_of_nonneg_left (show W.2 ≤ -1 by omega) (show 0 ≤ M by omega); omega
 unfold rise psv strip upw
 rw [e1, e2, e3, e4, e5, e6]
 simp only [mul_pos_iff' (show 0 < M by omega), mul_neg_iff' (show 0 < M by omega), mul_neg_iff' (show 0 < M - 1 by omega)]
 have q1 : (mulp M U).2 = M * U.2 := rfl
 have q2 : (mulp M W).2 = M * W.2 := rfl
 rw [q1, q2]
 try simp only
 have k1 := corner_k (u1 := U.1) (u2 := U.2) (w1 := W.1) (w2 := W.2) hU'
 have k2 : W.2 = 0 → ((0 < U.2 → (W.1 * U.2 - W.2 * U.1 < 0 ↔ W.1 < 0) ∧ (0 < W.1 * U.2 - W.2 * U.1 ↔ 0 < W.1)) ∧ (U.2 < 0 → (W.1 * U.2 - W.2 * U.1 < 0 ↔ 0 < W.1) ∧ (0 < W.1 * U.2 - W.2 * U.1 ↔ W.1 < 0))) := fun h => by
  have := corner_k (u1 := W.1) (u2 := W.2) (w1 := U.1) (w2 := U.2) hW' h
  rw [show W.1 * U.2 - W.2 * U.1 = -(U.1 * W.2 - U.2 * W.1) by grind]
  clear n1 n2 e1 e2 e3 e4 e5 e6 sU sW k1 hd hU hW
  generalize U.1 * W.2 - U.2 * W.1 = k at *
  omega
 have k3 : U.2 = 0 → W.2 = 0 → W.1 * U.2 - W.2 * U.1 = 0 := fun h1 h2 => by rw [h1, h2, Int.mul_zero, Int.zero_mul]; rfl
 clear n1 n2 e1 e2 e3 e4 e5 e6 q1 q2
 generalize W.1 * U.2 - W.2 * U.1 = k at *
 generalize M * U.2 = mu at *
 generalize M * W.2 = mw at *
 generalize U.2 = u2 at *
 generalize W.2 = w2 at *
 generalize U.1 = u1 at *
 generalize W.1 = w1 at *
 clear hU hW
 rcases Int.lt_trichotomy u2 0 with c1 | c1 | c1 <;> rcases Int.lt_trichotomy w2 0 with c2 | c2 | c2
 ·have a1 := sU.2.1 c1
  have a2 := sW.2.1 c2
  have a3 : k ≠ 0 := fun h => by have := hd h; omega
  clear sU sW k1 k2 k3 hd hU' hW'
  rcases Int.lt_trichotomy k 0 with c3 | c3 | c3 <;> (try (exfalso; omega)) <;> (repeat (first | rw [if_pos (by omega)] | rw [if_neg (by omega)])) <;> omega
 ·have a1 := sU.2.1 c1
  have a2 := sW.2.2 c2
  have a3 := (k2 c2).2 c1
  have a6 := hW' c2
  clear sU sW k1 k2 k3 hd hU' hW'
  rcases Int.lt_trichotomy k 0 with c3 | c3 | c3 <;> (try (exfalso; omega)) <;> (repeat (first | rw [if_pos (by omega)] | rw [if_neg (by omega)])) <;> omega
 ·have a1 := sU.2.1 c1
  have a2 := sW.1 c2
  clear sU sW k1 k2 k3 hd hU' hW'
  rcases Int.lt_trichotomy k 0 with c3 | c3 | c3 <;> (try (exfalso; omega)) <;> (repeat (first | rw [if_pos (by omega)] | rw [if_neg (by omega)])) <;> omega
 ·have a1 := sU.2.2 c1
  have a2 := sW.2.1 c2
  have a3 := (k1 c1).2 c2
  have a5 := hU' c1
  clear sU sW k1 k2 k3 hd hU' hW'
  rcases Int.lt_trichotomy k 0 with c3 | c3 | c3 <;> (try (exfalso; omega)) <;> (repeat (first | rw [if_pos (by omega)] | rw [if_neg (by omega)])) <;> omega
 ·have a1 := sU.2.2 c1
  have a2 := sW.2.2 c2
  have a3 := k3 c1 c2
  have a4 := hd a3
  have a5 := hU' c1
  have a6 := hW' c2
  clear sU sW k1 k2 k3 hd hU' hW'
  rcases Int.lt_trichotomy k 0 with c3 | c3 | c3 <;> (try (exfalso; omega)) <;> (repeat (first | rw [if_pos (by omega)] | rw [if_neg (by omega)])) <;> omega
 ·have a1 := sU.2.2 c1
  have a2 := sW.1 c2
  have a3 := (k1 c1).1 c2
  have a5 := hU' c1
  clear sU sW k1 k2 k3 hd hU' hW'
  rcases Int.lt_trichotomy k 0 with c3 | c3 | c3 <;> (try (exfalso; omega)) <;> (repeat (first | rw [if_pos (by omega)] | rw [if_neg (by omega)])) <;> omega
 ·have a1 := sU.1 c1
  have a2 := sW.2.1 c2
  clear sU sW k1 k2 k3 hd hU' hW'
  rcases Int.lt_trichotomy k 0 with c3 | c3 | c3 <;> (try (exfalso; omega)) <;> (repeat (first | rw [if_pos (by omega)] | rw [if_neg (by omega)])) <;> omega
 ·have a1 := sU.1 c1
  have a2 := sW.2.2 c2
  have a3 := (k2 c2).1 c1
  have a6 := hW' c2
  clear sU sW k1 k2 k3 hd hU' hW'
  rcases Int.lt_trichotomy k 0 with c3 | c3 | c3 <;> (try (exfalso; omega)) <;> (repeat (first | rw [if_pos (by omega)] | rw [if_neg (by omega)])) <;> omega
 ·have a1 := sU.1 c1
  have a2 := sW.1 c2
  have a3 : k ≠ 0 := fun h => by have := hd h; omega
  clear sU sW k1 k2 k3 hd hU' hW'
  rcases Int.lt_trichotomy k 0 with c3 | c3 | c3 <;> (try (exfalso; omega)) <;> (repeat (first | rw [if_pos (by omega)] | rw [if_neg (by omega)])) <;> omega
structure Cyc (e : Nat → Int × Int) (n : Nat) : Prop where
 n3 : 3 ≤ n
 per : ∀ i, e (i + n) = e i
 ne : ∀ i d, 1 ≤ d → d < n → e i ≠ e (i + d)
 ad : ∀ i, meet (e i) (e (i + 1)) (e (i + 1)) (e (i + 2)) = 1
 na : ∀ i d, 2 ≤ d → d + 2 ≤ n → meet (e i) (e (i + 1)) (e (i + d)) (e (i + d + 1)) = 0
theorem mod_far {n i d : Nat} (h1 : 1 ≤ d) (h2 : d < n) : i % n ≠ (i + d) % n := fun h => by
 have := Nat.sub_mod_eq_zero_of_mod_eq h.symm
 rw [show i + d - i = d by omega, Nat.mod_eq_of_lt h2] at this
 omega
theorem Cyc.of {r : List (Int × Int)} (h : Sound r) : Cyc (nx r) r.length := by
 obtain ⟨h3, _, hap⟩ := h
 refine ⟨h3, nx_per r, fun i d h1 h2 => (hap i (i + d) (mod_far h1 h2)).1, fun i => (hap i (i + 1) (mod_far (by omega) (by omega))).2.1 (.inl rfl), fun i d h1 h2 => (hap i (i + d) (mod_far (by omega) (by omega))).2.2 ?_⟩
 rintro (h | h)
 ·have := mod_far (n := r.length) (i := i + 1) (d := d - 1) (by omega) (by omega)
  rw [show i + 1 + (d - 1) = i + d by omega] at this
  exact this h
 ·have := mod_far (n := r.length) (i := i) (d := d + 1) (by omega) (by omega)
  exact this h.symm
theorem Cyc.on {e : Nat → Int × Int} {n : Nat} (h : Cyc e n) (k : Nat) : Cyc (fun i => e (i + k)) n := by
 refine ⟨h.n3, fun i => ?_, fun i d h1 h2 => ?_, fun i => ?_, fun i d h1 h2 => ?_⟩
 ·show e (i + n + k) = e (i + k)
  rw [show i + n + k = i + k + n by omega, h.per]
 ·have := h.ne (i + k) d h1 h2
  rwa [show i + k + d = i + d + k by omega] at this
 ·have := h.ad (i + k)
  rwa [show i + k + 1 = i + 1 + k by omega, show i + k + 2 = i + 2 + k by omega] at this
 ·have := h.na (i + k) d h1 h2
  rwa [show i + k + 1 = i + 1 + k by omega, show i + k + d + 1 = i + d + 1 + k by omega, show i + k + d = i + d + k by omega] at this
theorem Cyc.out {e : Nat → Int × Int} {n : Nat} (h : Cyc e n) {m : Int} (hm : 0 < m) : Cyc (fun i => mulp m (e i)) n := by
 refine ⟨h.n3, fun i => ?_, fun i d h1 h2 => ?_, fun i => ?_, fun i d h1 h2 => ?_⟩
 ·show mulp m _ = _
  rw [h.per]
 ·exact fun h' => h.ne i d h1 h2 ((mulp_inj hm).1 h')
 ·exact (meet_mulp hm _ _ _ _).trans (h.ad i)
 ·exact (meet_mulp hm _ _ _ _).trans (h.na i d h1 h2)
theorem Cyc.free {e : Nat → Int × Int} {n : Nat} (h : Cyc e n) {i : Nat} (h1 : 2 ≤ i) (h2 : i < n) : ¬ OnS (e i) (e (i + 1)) (e 1) := fun ho => by
 by_cases hi : i = 2
 ·subst hi
  have h3 : meet (e 1) (e 2) (e 2) (e 3) = 1 := h.ad 1
  have h4 := meet_three.2 (.inl ⟨ho, on_left (e 2) (e 3), h.ne 1 1 (by omega) (by have := h.n3; omega)⟩ : M3 (e 1) (e 2) (e 2) (e 3))
  omega
 ·have h3 := h.na 1 (i - 1) (by omega) (by omega)
  rw [show 1 + (i - 1) = i by omega] at h3
  have h4 := meet_pos.2 (.inl (.inl ho) : M1 (e 1) (e (1 + 1)) (e i) (e (i + 1)) ∨ _)
  omega
def Ins (a b z : Int × Int) : Prop := OnS a b z ∧ z ≠ a ∧ z ≠ b
theorem Ins.turn {a b z : Int × Int} (h : Ins a b z) : Ins b a z := ⟨on_turn.2 h.1, h.2.2, h.2.1⟩
theorem ins_way {a b z z' : Int × Int} (hab : a ≠ b) (h1 : Ins a b z) (h2 : Ins a b z') : ∀ x, OnS z z' x → Ins a b x := by
 obtain ⟨f, hf, hi⟩ := line_on hab
 have l1 := h1.1.1
 have l2 := h2.1.1
 have la := crs_aba a b
 have lb := crs_abb a b
 intro x hx
 have lx : crs a b x = 0 := by
  by_cases hz : z = z'
  ·rw [← hz] at hx
   rw [on_same hx]; exact l1
  ·by_cases e1 : x = z
   ·rw [e1]; exact l1
   by_cases e2 : x = z'
   ·rw [e2]; exact l2
   obtain ⟨N, t, hN, ht, ht', q1, q2⟩ := on_part hx hz
   have := crs_part q1 q2 a b
   rw [l1, l2, Int.mul_zero, Int.mul_zero] at this
   exact (mul_zero_iff' hN).1 this
 have b1 := (hf a b z la lb l1).1 h1.1
 have b2 := (hf a b z' la lb l2).1 h2.1
 have b3 := (hf z z' x l1 l2 lx).1 hx
 have i1 := mt (hi z a l1 la).1 h1.2.1
 have i2 := mt (hi z b l1 lb).1 h1.2.2
 have i3 := mt (hi z' a l2 la).1 h2.2.1
 have i4 := mt (hi z' b l2 lb).1 h2.2.2
 unfold btw at b1 b2 b3
 refine ⟨(hf a b x la lb lx).2 (by unfold btw; omega), fun hx' => ?_, fun hx' => ?_⟩
 ·have := (hi x a lx la).2 hx'; omega
 ·have := (hi x b lx lb).2 hx'; omega
theorem ins_adj {a b c z z' : Int × Int} (hab : a ≠ b) (h1 : Ins a b z) (h2 : Ins a b z') (hm : meet a b b c = 1) : meet z z' b c = 0 := by
 have hw := ins_way hab h1 h2
 have no : ∀ x, Ins a b x → ¬ OnS b c x := fun x hx ho => by
  have := meet_three.2 (two_common hx.2.2 hx.1 ho (on_right a b) (on_left b c))
  omega
 have hb := meet_bound (a := z) (b := z') (c := b) (d := c)
 have hn : ¬ (M1 z z' b c ∨ XX z z' b c) := by
  rintro ((h | h | h | h) | h)
  ·exact no _ h1 h
  ·exact no _ h2 h
  ·exact (hw b h).2.2 rfl
  ·exact no _ (hw c h) (on_right b c)
  ·have := line3 hab h1.1.1 h2.1.1 (crs_abb a b)
   have h' := h.1
   rw [this, Int.zero_mul] at h'
   omega
 have := mt meet_pos.1 hn
 omega
theorem ins_far {a b c d z z' : Int × Int} (hab : a ≠ b) (h1 : Ins a b z) (h2 : Ins a b z') (hm : meet a b c d = 0) : meet z z' c d = 0 := by
 have hw := ins_way hab h1 h2
 have hb := meet_bound (a := z) (b := z') (c := c) (d := d)
 have hp : ¬ 0 < meet z z' c d := fun hp => by
  have : 0 < meet a b c d := by
   rcases on_split h1.1 h2.1 with h | h
   ·exact part_whole h1.1 (part_whole' h (by rw [meet_turn]; exact hp))
   ·exact part_whole' h1.1 (part_whole h hp)
  omega
 omega
theorem Cyc.clear {e : Nat → Int × Int} {n : Nat} (h : Cyc e n) {z z' : Int × Int} (h1 : Ins (e 0) (e 1) z) (h2 : Ins (e 0) (e 1) z') {i : Nat} (i1 : 1 ≤ i) (i2 : i < n) : meet z z' (e i) (e (i + 1)) = 0 := by
 have hn := h.n3
 have h01 : e 0 ≠ e 1 := h.ne 0 1 (by omega) (by omega)
 by_cases c1 : i = 1
 ·subst c1
  exact ins_adj h01 h1 h2 (h.ad 0)
 by_cases c2 : i + 1 = n
 ·have p0 : e n = e 0 := by have := h.per 0; rwa [Nat.zero_add] at this
  have p1 : e (i + 2) = e 1 := by have := h.per 1; rwa [show 1 + n = i + 2 by omega] at this
  have := h.ad i
  rw [p1, c2, p0] at this
  rw [c2, p0]
  have h3 := ins_adj (a := e 1) (b := e 0) (c := e i) h01.symm h1.turn h2.turn (by rw [← meet_swap, meet_turn, ← meet_swap, meet_turn, meet_swap]; exact this)
  rw [← meet_swap, meet_turn, meet_swap]
  exact h3
 ·have := h.na 0 i (by omega) (by omega)
  simp only [Nat.zero_add] at this
  exact ins_far h01 h1 h2 this
theorem wnd_head (e : Nat → Int × Int) (n : Nat) (p : Int × Int) : wnd e (n + 1) p = psv (e 0) (e 1) p + wnd (fun i => e (i + 1)) n p := by
 have := sumTo_succ (fun i => psv (e i) (e (i + 1)) p) n
 unfold wnd
 rw [sumTo]
 show _ = _ + sumTo (fun i => psv (e (i + 1)) (e (i + 1 + 1)) p) n
 rw [this]
 simp only [Nat.zero_add]
 omega
theorem psv_on {a b p : Int × Int} (h : crs a b p = 0) : psv a b p = 0 := by
 unfold psv
 rw [h, if_neg (by omega), if_neg (by omega)]
theorem Cyc.inner {e : Nat → Int × Int} {n : Nat} (h : Cyc e n) {z z' : Int × Int} (h1 : Ins (e 0) (e 1) z) (h2 : Ins (e 0) (e 1) z') : wnd e n z = wnd e n z' := by
 have hn := h.n3
 obtain ⟨m, rfl⟩ : ∃ m, n = m + 1 := ⟨n - 1, by omega⟩
 have h01 : e 0 ≠ e 1 := h.ne 0 1 (by omega) (by omega)
 rw [wnd_head, wnd_head, psv_on h1.1.1, psv_on h2.1.1]
 have hw := way_any (e := fun i => e (i + 1)) (z := z) (z' := z') m (fun i hi => h.clear h1 h2 (by omega) (by omega))
 have p0 : e (m + 1) = e 0 := by have := h.per 0; rwa [Nat.zero_add] at this
 have c0 := line3 h01 h1.1.1 h2.1.1 (crs_aba _ _)
 have c1 := line3 h01 h1.1.1 h2.1.1 (crs_abb _ _)
 have c0' := line3 h01 h2.1.1 h1.1.1 (crs_aba _ _)
 have c1' := line3 h01 h2.1.1 h1.1.1 (crs_abb _ _)
 have hr : rise z z' (e 1) (e 0) = 0 := by
  unfold rise strip
  rw [c0, c1, c0', c1']
  simp
 simp only [Nat.zero_add, p0] at hw
 omega
theorem mulp_mvd (m : Int) (d p : Int × Int) : mulp m (mvd d p) = mvd (mulp m d) (mulp m p) := by unfold mulp mvd; simp only [Int.mul_add]
theorem strip_mvd (d z z' x : Int × Int) : strip (mvd d z) (mvd d z') (mvd d x) = strip z z' x := by
 unfold strip
 rw [crs_mvd]
 unfold mvd
 simp only [Int.add_lt_add_iff_right, Int.add_le_add_iff_right]
theorem rise_mvd (d z z' x y : Int × Int) : rise (mvd d z) (mvd d z') (mvd d x) (mvd d y) = rise z z' x y := by
 unfold rise
 simp only [strip_mvd]
 unfold mvd
 simp only [Int.add_lt_add_iff_right]
theorem upw_mvd (d a b : Int × Int) : upw (mvd d a) (mvd d b) = upw a b := by
 unfold upw mvd
 have h : (a.2 + d.2 = b.2 + d.2) = (a.2 = b.2) := propext ⟨fun h => by omega, fun h => by omega⟩
 simp only [Int.add_lt_add_iff_right, h]
def from0 (v u : Int × Int) : Int × Int := (u.1 - v.1, u.2 - v.2)
theorem mvd_from (v u : Int × Int) : mvd v (from0 v u) = u := by unfold mvd from0; exact Prod.ext (by simp only; omega) (by simp only; omega)
theorem mvd_zero (v : Int × Int) : mvd v (0, 0) = v := by unfold mvd; exact Prod.ext (by simp only; omega) (by simp only; omega)
theorem apart_ways {u v w : Int × Int} (h1 : u ≠ v) (h2 : v ≠ w) (hm : meet u v v w = 1) (hk : (from0 v w).1 * (from0 v u).2 - (from0 v w).2 * (from0 v u).1 = 0) :
  (0 < (from0 v u).2 ∧ (from0 v w).2 < 0) ∨ ((from0 v u).2 < 0 ∧ 0 < (from0 v w).2) ∨ ((from0 v u).2 = 0 ∧ (from0 v w).2 = 0 ∧ (0 < (from0 v u).1 ∧ (from0 v w).1 < 0 ∨ (from0 v u).1 < 0 ∧ 0 < (from0 v w).1)) := by
 have nou : ¬ OnS v w u := fun ho => by
  have := meet_three.2 (two_common h1 (on_left u v) ho (on_right u v) (on_left v w)); omega
 have now : ¬ OnS v u w := fun ho => by
  have := meet_three.2 (two_common h2.symm (on_turn.1 ho) (on_right v w) (on_right u v) (on_left v w)); omega
 have c1 : crs v w u = 0 := by rw [← hk]; unfold crs from0; grind
 have c2 : crs v u w = 0 := by
  have : crs v u w = -crs v w u := by unfold crs; grind
  omega
 have d1 : u.1 = v.1 → u.2 ≠ v.2 := fun e e' => h1 (Prod.ext e e')
 have d2 : v.1 = w.1 → v.2 ≠ w.2 := fun e e' => h2 (Prod.ext e e')
 have l1 : v.2 ≠ w.2 → ¬ btw v.2 w.2 u.2 := fun h h' => nou (on_level c1 h h')
 have l2 : v.2 ≠ u.2 → ¬ btw v.2 u.2 w.2 := fun h h' => now (on_level c2 h h')
 have l3 : ¬ (btw v.1 w.1 u.1 ∧ btw v.2 w.2 u.2) := fun h => nou ⟨c1, h⟩
 have l4 : ¬ (btw v.1 u.1 w.1 ∧ btw v.2 u.2 w.2) := fun h => now ⟨c2, h⟩
 unfold btw at l1 l2 l3 l4
 unfold from0
 simp only
 clear hk c1 c2 nou now hm h1 h2
 rcases Int.lt_trichotomy u.2 v.2 with a1 | a1 | a1 <;> rcases Int.lt_trichotomy w.2 v.2 with a2 | a2 | a2 <;> omega
theorem Cyc.step {e : Nat → Int × Int} {n : Nat} (h : Cyc e n) : ∃ K : Int, ∀ M, K ≤ M → wnd (fun i => mulp M (e i)) n (mvd (mulp M (e 1)) (from0 (e 1) (e 0))) + upw (e 0) (e 1) = wnd (fun i => mulp M (e i)) n (mvd (mulp M (e 1)) (from0 (e 1) (e 2))) + upw (e 1) (e 2) := by
 have hn := h.n3
 obtain ⟨m, rfl⟩ : ∃ m, n = m + 1 + 1 := ⟨n - 2, by omega⟩
 have h01 : e 0 ≠ e 1 := h.ne 0 1 (by omega) (by omega)
 have h12 : e 1 ≠ e 2 := h.ne 1 1 (by omega) (by omega)
 have p0 : e (m + 1 + 1) = e 0 := by have := h.per 0; rwa [Nat.zero_add] at this
 obtain ⟨K, hK⟩ := far_all (P := fun i M => i < m → meet (mvd (mulp M (e 1)) (from0 (e 1) (e 0))) (mvd (mulp M (e 1)) (from0 (e 1) (e 2))) (mulp M (e (i + 1 + 1))) (mulp M (e (i + 1 + 1 + 1))) = 0) (fun i => by
  by_cases hi : i < m
  ·obtain ⟨K, hK⟩ := far_one (h.free (i := i + 1 + 1) (by omega) (by omega)) (from0 (e 1) (e 0)) (from0 (e 1) (e 2))
   exact ⟨K, fun M hM _ => hK M hM⟩
  ·exact ⟨0, fun _ _ hi' => absurd hi' hi⟩) m
 have ha := apart_ways h01 h12 (h.ad 0)
 have e0 := mvd_from (e 1) (e 0)
 have e2 := mvd_from (e 1) (e 2)
 have u0 : from0 (e 1) (e 0) ≠ (0, 0) := fun hx => by rw [hx, mvd_zero] at e0; exact h01 e0.symm
 have w0 : from0 (e 1) (e 2) ≠ (0, 0) := fun hx => by rw [hx, mvd_zero] at e2; exact h12 e2
 generalize from0 (e 1) (e 0) = U at *
 generalize from0 (e 1) (e 2) = W at *
 refine ⟨2 + K.natAbs + U.2.natAbs + W.2.natAbs, fun M hM => ?_⟩
 have hc := corner (U := U) (W := W) (M := M) (by omega) (by omega) (by omega) (by omega) (by omega) u0 w0 ha
 have hw := way_any (e := fun i => mulp M (e (i + 1 + 1))) (z := mvd (mulp M (e 1)) U) (z' := mvd (mulp M (e 1)) W) m (fun i hi => hK M (by omega) i hi hi)
 rw [wnd_head, wnd_head, wnd_head, wnd_head]
 simp only [Nat.zero_add, p0] at hw ⊢
 have q0 : mulp M (e 0) = mvd (mulp M (e 1)) (mulp M U) := by rw [← mulp_mvd, e0]
 have q2 : mulp M (e (1 + 1)) = mvd (mulp M (e 1)) (mulp M W) := by rw [← mulp_mvd, e2]
 have q1 : mulp M (e 1) = mvd (mulp M (e 1)) (0, 0) := (mvd_zero _).symm
 have x1 : psv (mulp M (e 0)) (mulp M (e 1)) (mvd (mulp M (e 1)) U) = 0 := psv_on (by rw [q0]; unfold crs mulp mvd; grind)
 have x2 : psv (mulp M (e 1)) (mulp M (e (1 + 1))) (mvd (mulp M (e 1)) W) = 0 := psv_on (by rw [q2]; unfold crs mulp mvd; grind)
 have x3 : psv (mulp M (e 1)) (mulp M (e (1 + 1))) (mvd (mulp M (e 1)) U) = psv (0, 0) (mulp M W) U := by
  rw [q2]
  conv => lhs; arg 1; rw [q1]
  exact psv_mvd _ _ _ _
 have x4 : psv (mulp M (e 0)) (mulp M (e 1)) (mvd (mulp M (e 1)) W) = psv (mulp M U) (0, 0) W := by
  rw [q0]
  conv => lhs; arg 2; rw [q1]
  exact psv_mvd _ _ _ _
 have x5 : rise (mvd (mulp M (e 1)) U) (mvd (mulp M (e 1)) W) (mulp M (e (1 + 1))) (mulp M (e 0)) = rise U W (mulp M W) (mulp M U) := by rw [q2, q0]; exact rise_mvd _ _ _ _ _
 have x6 : upw (e 0) (e 1) = upw U (0, 0) := by
  have := upw_mvd (e 1) U (0, 0)
  rwa [e0, mvd_zero] at this
 have x7 : upw (e 1) (e 2) = upw (0, 0) W := by
  have := upw_mvd (e 1) (0, 0) W
  rwa [e2, mvd_zero] at this
 rw [x1, x2, x3, x4, x6, x7]
 rw [x5] at hw
 omega
theorem wnd_on {e : Nat → Int × Int} {n : Nat} (h : Cyc e n) (k : Nat) (p : Int × Int) : wnd (fun i => e (i + k)) n p = wnd e n p := by
 unfold wnd
 have := sumTo_shift (f := fun i => psv (e i) (e (i + 1)) p) (n := n) (fun i => by
  have h1 := h.per i
  have h2 := h.per (i + 1)
  simp only [h1, show i + n + 1 = i + 1 + n by omega, h2]) k
 rw [← this]
 exact sumTo_ext _ fun i _ => by simp only [show i + 1 + k = i + k + 1 by omega]
theorem ins_near {a b : Int × Int} (hab : a ≠ b) {M : Int} (hM : 2 ≤ M) : Ins (mulp M a) (mulp M b) (mvd (mulp M a) (from0 a b)) := by
 have q1 : M * (b.1 - a.1) = M * b.1 - M * a.1 := Int.mul_sub ..
 have q2 : M * (b.2 - a.2) = M * b.2 - M * a.2 := Int.mul_sub ..
 have key : ∀ d : Int, (0 < d → d + d ≤ M * d) ∧ (d < 0 → M * d ≤ d + d) ∧ (d = 0 → M * d = 0) := fun d => by
  refine ⟨fun h => ?_, fun h => ?_, fun h => by rw [h, Int.mul_zero]⟩
  ·have := Int.mul_le_mul_of_nonneg_right hM (show 0 ≤ d by omega); omega
  ·have := Int.mul_le_mul_of_nonneg_right hM (show 0 ≤ -d by omega); simp only [Int.mul_neg] at this; omega
 have k1 := key (b.1 - a.1)
 have k2 := key (b.2 - a.2)
 have hd := ne_parts hab
 have hc : crs (mulp M a) (mulp M b) (mvd (mulp M a) (from0 a b)) = 0 := by unfold crs mulp mvd from0; grind
 rw [q1] at k1
 rw [q2] at k2
 clear q1 q2 key
 refine ⟨⟨hc, ?_, ?_⟩, fun hx => ?_, fun hx => ?_⟩
 ·unfold btw mulp mvd from0
  simp only
  generalize M * a.1 = x at *
  generalize M * b.1 = y at *
  rcases Int.lt_trichotomy (b.1 - a.1) 0 with h | h | h <;> omega
 ·unfold btw mulp mvd from0
  simp only
  generalize M * a.2 = x at *
  generalize M * b.2 = y at *
  rcases Int.lt_trichotomy (b.2 - a.2) 0 with h | h | h <;> omega
 ·have h1 := congrArg Prod.fst hx
  have h2 := congrArg Prod.snd hx
  unfold mulp mvd from0 at h1 h2
  simp only at h1 h2
  omega
 ·have h1 := congrArg Prod.fst hx
  have h2 := congrArg Prod.snd hx
  unfold mulp mvd from0 at h1 h2
  simp only at h1 h2
  rcases hd with hd | hd
  ·rcases Int.lt_or_gt_of_ne hd with h | h <;> omega
  ·rcases Int.lt_or_gt_of_ne hd with h | h <;> omega
theorem Cyc.inner_at {e : Nat → Int × Int} {n : Nat} (h : Cyc e n) (i : Nat) {z z' : Int × Int} (h1 : Ins (e i) (e (i + 1)) z) (h2 : Ins (e i) (e (i + 1)) z') : wnd e n z = wnd e n z' := by
 have := (h.on i).inner (z := z) (z' := z') (by simp only [Nat.zero_add, Nat.add_comm 1 i]; exact h1) (by simp only [Nat.zero_add, Nat.add_comm 1 i]; exact h2)
 rwa [wnd_on h, wnd_on h] at this
theorem ins_mulp {m : Int} (hm : 0 < m) {a b z : Int × Int} : Ins (mulp m a) (mulp m b) (mulp m z) ↔ Ins a b z := by
 unfold Ins
 simp only [on_mulp hm, ne_eq, mulp_inj hm]
theorem Cyc.same {e : Nat → Int × Int} {n : Nat} (h : Cyc e n) : ∃ c : Int, ∀ m : Int, 0 < m → ∀ i, i < n → ∀ z, Ins (mulp m (e i)) (mulp m (e (i + 1))) z → wnd (fun j => mulp m (e j)) n z + upw (e i) (e (i + 1)) = c := by
 have hn := h.n3
 have hne : ∀ i, e i ≠ e (i + 1) := fun i => h.ne i 1 (by omega) (by omega)
 obtain ⟨K, hK⟩ := far_all (P := fun i M => wnd (fun j => mulp M (e j)) n (mvd (mulp M (e (i + 1))) (from0 (e (i + 1)) (e i))) + upw (e i) (e (i + 1)) = wnd (fun j => mulp M (e j)) n (mvd (mulp M (e (i + 1))) (from0 (e (i + 1)) (e (i + 1 + 1)))) + upw (e (i + 1)) (e (i + 1 + 1)) ∨ M < 1) (fun i => by
  obtain ⟨K, hK⟩ := (h.on i).step
  refine ⟨K, fun M hM => ?_⟩
  by_cases hM1 : M < 1
  ·exact .inr hM1
  have h1 := hK M hM
  have hw := fun p => wnd_on (h.out (m := M) (by omega)) i p
  rw [hw, hw] at h1
  simp only [Nat.zero_add, show 1 + i = i + 1 by omega, show 2 + i = i + 1 + 1 by omega] at h1
  exact .inl h1) n
 obtain ⟨M, hM, hM2⟩ : ∃ M, K ≤ M ∧ 2 ≤ M := ⟨2 + K.natAbs, by omega, by omega⟩
 have hC := h.out (m := M) (by omega)
 have hB : ∀ i, Ins (mulp M (e i)) (mulp M (e (i + 1))) (mvd (mulp M (e i)) (from0 (e i) (e (i + 1)))) := fun i => ins_near (hne i) hM2
 have hA : ∀ i, Ins (mulp M (e i)) (mulp M (e (i + 1))) (mvd (mulp M (e (i + 1))) (from0 (e (i + 1)) (e i))) := fun i => (ins_near (hne i).symm hM2).turn
 have hL : ∀ i, i < n → wnd (fun j => mulp M (e j)) n (mvd (mulp M (e i)) (from0 (e i) (e (i + 1)))) + upw (e i) (e (i + 1)) = wnd (fun j => mulp M (e j)) n (mvd (mulp M (e 0)) (from0 (e 0) (e (0 + 1)))) + upw (e 0) (e (0 + 1)) := by
  intro i
  induction i with
  |zero => intro _; rfl
  |succ i ih =>
   intro hi
   rw [← ih (by omega)]
   have h1 := hC.inner_at i (hB i) (hA i)
   rcases hK M hM i (by omega) with h2 | h2
   ·rw [← h2, h1]
   ·omega
 refine ⟨_, fun m hm i hi z hz => (?_ : _ = wnd (fun j => mulp M (e j)) n (mvd (mulp M (e 0)) (from0 (e 0) (e (0 + 1)))) + upw (e 0) (e (0 + 1)))⟩
 rw [← hL i hi]
 have hmM := Int.mul_pos (a := m) (b := M) hm (by omega)
 have hCC := h.out hmM
 have e1 : wnd (fun j => mulp (m * M) (e j)) n (mulp m (mvd (mulp M (e i)) (from0 (e i) (e (i + 1))))) = wnd (fun j => mulp M (e j)) n (mvd (mulp M (e i)) (from0 (e i) (e (i + 1)))) := by
  have := wnd_mulp hm (fun j => mulp M (e j)) n (mvd (mulp M (e i)) (from0 (e i) (e (i + 1))))
  simp only [mulp_mulp] at this
  exact this
 have e2 : wnd (fun j => mulp (m * M) (e j)) n (mulp M z) = wnd (fun j => mulp m (e j)) n z := by
  have := wnd_mulp (m := M) (by omega) (fun j => mulp m (e j)) n z
  simp only [mulp_mulp, Int.mul_comm M m] at this
  exact this
 have e3 := hCC.inner_at i (z := mulp M z) (z' := mulp m (mvd (mulp M (e i)) (from0 (e i) (e (i + 1)))))
  (by have := (ins_mulp (m := M) (by omega)).2 hz; simp only [mulp_mulp, Int.mul_comm M m] at this; exact this)
  (by have := (ins_mulp hm).2 (hB i); simp only [mulp_mulp] at this; exact this)
 rw [← e1, ← e2, e3]
theorem Cyc.alone {e : Nat → Int × Int} {n : Nat} (h : Cyc e n) {i j : Nat} (hi : i < n) (hj : j < n) (hij : j ≠ i) {z : Int × Int} (hz : Ins (e i) (e (i + 1)) z) : ¬ OnS (e j) (e (j + 1)) z := fun ho => by
 have key : ∀ d, 1 ≤ d → d < n → ¬ OnS (e (i + d)) (e (i + d + 1)) z := fun d h1 h2 ho => by
  have h3 := (h.on i).clear (z := z) (z' := z) (i := d) (by simp only [Nat.zero_add, Nat.add_comm 1 i]; exact hz) (by simp only [Nat.zero_add, Nat.add_comm 1 i]; exact hz) h1 h2
  simp only [show d + i = i + d by omega, show d + 1 + i = i + d + 1 by omega] at h3
  have h4 := meet_pos.2 (.inl (.inl ho) : M1 z z (e (i + d)) (e (i + d + 1)) ∨ _)
  omega
 by_cases hc : i < j
 ·have := key (j - i) (by omega) (by omega)
  rw [show i + (j - i) = j by omega] at this
  exact this ho
 ·have := key (j + n - i) (by omega) (by omega)
  rw [show i + (j + n - i) = j + n by omega, h.per, show j + n + 1 = j + 1 + n by omega, h.per] at this
  exact this ho
theorem least_of {P : Nat → Prop} (X : Nat → Int) : ∀ n : Nat, (∀ i, i < n → ¬ P i) ∨ ∃ i, i < n ∧ P i ∧ ∀ j, j < n → P j → X i ≤ X j
 |0 => .inl fun i hi => absurd hi (by omega)
 |n + 1 => by
  by_cases hp : P n
  ·right
   rcases least_of X n with h | ⟨i, hi, h1, h2⟩
   ·refine ⟨n, by omega, hp, fun j hj hpj => ?_⟩
    by_cases hjn : j = n
    ·rw [hjn]; omega
    ·exact absurd hpj (h j (by omega))
   ·by_cases hc : X i ≤ X n
    ·refine ⟨i, by omega, h1, fun j hj hpj => ?_⟩
     by_cases hjn : j = n
     ·rw [hjn]; exact hc
     ·exact h2 j (by omega) hpj
    ·refine ⟨n, by omega, hp, fun j hj hpj => ?_⟩
     by_cases hjn : j = n
     ·rw [hjn]; omega
     ·have := h2 j (by omega) hpj; omega
  ·rcases least_of X n with h | ⟨i, hi, h1, h2⟩
   ·left
    intro i hi
    by_cases hin : i = n
    ·rw [hin]; exact hp
    ·exact h i (by omega)
   ·right
    refine ⟨i, by omega, h1, fun j hj hpj => ?_⟩
    by_cases hjn : j = n
    ·rw [hjn] at hpj; exact absurd hpj hp
    ·exact h2 j (by omega) hpj
theorem sumTo_zero {f : Nat → Int} (n : Nat) (h : ∀ i, i < n → f i = 0) : sumTo f n = 0 := by
 induction n with
 |zero => rfl
 |succ n ih => rw [sumTo, ih fun i hi => h i (by omega), h n (by omega)]; rfl
theorem sumTo_alone {f : Nat → Int} {i : Nat} : ∀ n, i < n → (∀ j, j < n → j ≠ i → f j = 0) → sumTo f n = f i
 |0, h, _ => absurd h (by omega)
 |n + 1, h, h' => by
  rw [sumTo]
  by_cases hin : i = n
  ·rw [hin, sumTo_zero n fun j hj => h' j (by omega) (by omega)]; omega
  ·rw [sumTo_alone n (by omega) fun j hj hji => h' j (by omega) hji, h' n (by omega) (by omega)]; omega
def Cross (e : Nat → Int × Int) (y : Int) (i : Nat) : Prop := ((e i).2 < y ∧ y < (e (i + 1)).2) ∨ ((e (i + 1)).2 < y ∧ y < (e i).2)
structure Level (e : Nat → Int × Int) (n : Nat) (y : Int) (X : Nat → Int) : Prop where
 no : ∀ i, (e i).2 ≠ y
 on : ∀ i, i < n → Cross e y i → OnS (e i) (e (i + 1)) (X i, y)
theorem Level.ins {e : Nat → Int × Int} {n : Nat} {y : Int} {X : Nat → Int} (h : Level e n y X) {i : Nat} (hi : i < n) (hc : Cross e y i) : Ins (e i) (e (i + 1)) (X i, y) :=
 ⟨h.on i hi hc, fun hx => h.no i (congrArg Prod.snd hx).symm, fun hx => h.no (i + 1) (congrArg Prod.snd hx).symm⟩
theorem Level.psv {e : Nat → Int × Int} {n : Nat} {y : Int} {X : Nat → Int} (h : Level e n y X) {i : Nat} (hi : i < n) (x : Int) : (¬ Cross e y i → psv (e i) (e (i + 1)) (x, y) = 0) ∧ (Cross e y i → X i ≤ x → psv (e i) (e (i + 1)) (x, y) = 0) ∧ (Cross e y i → x < X i → psv (e i) (e (i + 1)) (x, y) = if (e i).2 < y then 1 else -1) := by
 have n1 := h.no i
 have n2 := h.no (i + 1)
 refine ⟨fun hc => ?_, fun hc hx => ?_, fun hc hx => ?_⟩
 ·unfold Cross at hc
  unfold Go.Proofs.YtjlnjjmomohpaaaGreat.psv
  simp only
  rw [if_neg (by omega), if_neg (by omega)]
 ·have ho := (h.on i hi hc).1
  have hq : crs (e i) (e (i + 1)) (x, y) = ((e (i + 1)).2 - (e i).2) * (X i - x) := by unfold crs at *; simp only at *; grind
  have m1 := mulSigns ((e (i + 1)).2 - (e i).2) (X i - x)
  unfold Cross at hc
  unfold Go.Proofs.YtjlnjjmomohpaaaGreat.psv
  rw [hq]
  simp only
  generalize ((e (i + 1)).2 - (e i).2) * (X i - x) = v at *
  rw [if_neg (by omega), if_neg (by omega)]
 ·have ho := (h.on i hi hc).1
  have hq : crs (e i) (e (i + 1)) (x, y) = ((e (i + 1)).2 - (e i).2) * (X i - x) := by unfold crs at *; simp only at *; grind
  have m1 := mulSigns ((e (i + 1)).2 - (e i).2) (X i - x)
  unfold Cross at hc
  unfold Go.Proofs.YtjlnjjmomohpaaaGreat.psv
  rw [hq]
  simp only
  generalize ((e (i + 1)).2 - (e i).2) * (X i - x) = v at *
  by_cases hu : (e i).2 < y
  ·rw [if_pos (by omega), if_pos hu]
  ·rw [if_neg (by omega), if_pos (by omega), if_neg hu]
theorem Level.told {e : Nat → Int × Int} {n : Nat} {y : Int} {X : Nat → Int} {c : Int} (h : Level e n y X) (hC : Cyc e n) (hc : ∀ i, i < n → ∀ z, Ins (e i) (e (i + 1)) z → wnd e n z + upw (e i) (e (i + 1)) = c) :
  (∀ x, wnd e n (x, y) = 0 ∨ wnd e n (x, y) = c ∨ wnd e n (x, y) = c - 1) ∧ ((∃ i, i < n ∧ Cross e y i) → c = 0 ∨ c = 1) := by
 have hup : ∀ i, Cross e y i → upw (e i) (e (i + 1)) = if (e i).2 < y then 1 else 0 := fun i hx => by
  unfold Cross at hx
  unfold upw
  by_cases hu : (e i).2 < y
  ·rw [if_pos (by omega), if_pos hu]
  ·rw [if_neg (by omega), if_neg hu]
 constructor
 ·intro x
  rcases least_of (P := fun i => Cross e y i ∧ x < X i) X n with h0 | ⟨i, hi, ⟨hx, hlt⟩, hmin⟩
  ·left
   refine sumTo_zero n fun i hi => ?_
   obtain ⟨p1, p2, p3⟩ := h.psv hi x
   by_cases hx : Cross e y i
   ·exact p2 hx (by have := h0 i hi; simp only [not_and] at this; have := this hx; omega)
   ·exact p1 hx
  ·right
   have hI := h.ins hi hx
   have e1 := hc i hi _ hI
   have e2 : wnd e n (x, y) - wnd e n (X i, y) = if (e i).2 < y then 1 else -1 := by
    unfold wnd
    rw [← sumTo_sub, sumTo_alone (i := i) n hi]
    ·obtain ⟨p1, p2, p3⟩ := h.psv hi x
     obtain ⟨q1, q2, q3⟩ := h.psv hi (X i)
     rw [p3 hx hlt, q2 hx (by omega)]; omega
    ·intro j hj hji
     obtain ⟨p1, p2, p3⟩ := h.psv hj x
     obtain ⟨q1, q2, q3⟩ := h.psv hj (X i)
     by_cases hxj : Cross e y j
     ·have hne : X j ≠ X i := fun he => hC.alone hi hj hji hI (by rw [← he]; exact h.on j hj hxj)
      by_cases hl : x < X j
      ·have := hmin j hj ⟨hxj, hl⟩
       rw [p3 hxj hl, q3 hxj (by omega)]; omega
      ·rw [p2 hxj (by omega), q2 hxj (by omega)]; rfl
     ·rw [p1 hxj, q1 hxj]; rfl
   rw [hup i hx] at e1
   by_cases hu : (e i).2 < y
   ·rw [if_pos hu] at e1 e2; omega
   ·rw [if_neg hu] at e1 e2; omega
 ·rintro ⟨k, hk, hxk⟩
  rcases least_of (P := fun i => Cross e y i) (fun i => -X i) n with h0 | ⟨i, hi, hx, hmin⟩
  ·exact absurd hxk (h0 k hk)
  ·have hI := h.ins hi hx
   have e1 := hc i hi _ hI
   have e2 : wnd e n (X i, y) = 0 := by
    refine sumTo_zero n fun j hj => ?_
    obtain ⟨q1, q2, q3⟩ := h.psv hj (X i)
    by_cases hxj : Cross e y j
    ·have := hmin j hj hxj
     exact q2 hxj (by omega)
    ·exact q1 hxj
   rw [hup i hx, e2] at e1
   by_cases hu : (e i).2 < y
   ·rw [if_pos hu] at e1; omega
   ·rw [if_neg hu] at e1; omega
theorem div_all (d : Nat → Int) : ∀ n : Nat, ∃ N : Int, 0 < N ∧ ∀ i, i < n → d i ≠ 0 → d i ∣ N
 |0 => ⟨1, by omega, fun i hi => absurd hi (by omega)⟩
 |n + 1 => by
  obtain ⟨N, hN, h⟩ := div_all d n
  by_cases hd : d n = 0
  ·refine ⟨N, hN, fun i hi hi' => ?_⟩
   by_cases hin : i = n
   ·rw [hin] at hi'; exact absurd hd hi'
   ·exact h i (by omega) hi'
  ·refine ⟨N * (d n).natAbs, Int.mul_pos hN (by omega), fun i hi hi' => ?_⟩
   by_cases hin : i = n
   ·rw [hin]
    refine Int.dvd_trans ?_ (Int.dvd_mul_left ..)
    exact Int.dvd_natAbs.2 (Int.dvd_refl _)
   ·exact Int.dvd_trans (h i (by omega) hi') (Int.dvd_mul_right ..)
def crossX (N M : Int) (e : Nat → Int × Int) (l : Int) (i : Nat) : Int := N * M * (e i).1 + N / ((e (i + 1)).2 - (e i).2) * (l - M * (e i).2) * ((e (i + 1)).1 - (e i).1)
theorem level_of {e : Nat → Int × Int} {n : Nat} {N M l : Int} (hN : 0 < N) (hd : ∀ i, i < n → (e (i + 1)).2 - (e i).2 ≠ 0 → (e (i + 1)).2 - (e i).2 ∣ N) (hl : ∀ i, M * (e i).2 ≠ l) :
  Level (fun i => mulp (N * M) (e i)) n (N * l) (crossX N M e l) := by
 have q : ∀ i, (mulp (N * M) (e i)).2 = N * (M * (e i).2) := fun i => by unfold mulp; simp only [Int.mul_assoc]
 refine ⟨fun i => ?_, fun i hi hc => ?_⟩
 ·rw [q]
  exact fun h => hl i (Int.eq_of_mul_eq_mul_left (by omega) h)
 ·unfold Cross at hc
  have hne : (e (i + 1)).2 - (e i).2 ≠ 0 := fun h0 => by
   have : (e (i + 1)).2 = (e i).2 := by omega
   rw [q, q, this] at hc
   omega
  have hq := Int.mul_ediv_cancel' (hd i hi hne)
  refine on_level ?_ (by rw [q, q] at hc ⊢; omega) (by unfold btw; rw [q, q] at hc ⊢; simp only; omega)
  unfold crossX
  generalize N / ((e (i + 1)).2 - (e i).2) = k at *
  generalize e (i + 1) = b at *
  generalize e i = a at *
  unfold crs mulp
  simp only
  subst hq
  grind
theorem upw_mulp {m : Int} (hm : 0 < m) (a b : Int × Int) : upw (mulp m a) (mulp m b) = upw a b := by
 unfold upw mulp
 have h : (m * a.2 = m * b.2) = (a.2 = b.2) := propext ⟨fun h => Int.eq_of_mul_eq_mul_left (by omega) h, fun h => by rw [h]⟩
 simp only [mul_lt_iff hm, h]
theorem sum_swap (g : Nat → Nat → Int) (n : Nat) : ∀ T, sumTo (fun t => sumTo (fun i => g i t) n) T = sumTo (fun i => sumTo (fun t => g i t) T) n
 |0 => (sumTo_zero n fun _ _ => rfl).symm
 |T + 1 => by
  rw [sumTo, sum_swap g n T, ← sumTo_add]
  rfl
theorem sum_le {f : Nat → Int} (n : Nat) (h : ∀ i, i < n → f i ≤ 0) : sumTo f n ≤ 0 := by
 induction n with
 |zero => exact Int.le_refl _
 |succ n ih => have := ih fun i hi => h i (by omega); have := h n (by omega); rw [sumTo]; omega
theorem sum_count (s Y : Int) (hY : 0 ≤ Y) : ∀ m : Nat, sumTo (fun x => if (x : Int) < Y then s else 0) m = if (m : Int) ≤ Y then s * m else s * Y
 |0 => by rw [if_pos (by omega)]; simp [sumTo]
 |m + 1 => by
  rw [sumTo, sum_count s Y hY m]
  by_cases h : (m : Int) < Y
  ·rw [if_pos (by omega), if_pos h, if_pos (by omega)]
   rw [show ((m + 1 : Nat) : Int) = (m : Int) + 1 by omega, Int.mul_add, Int.mul_one]
  ·by_cases h1 : (m : Int) = Y
   ·rw [if_pos (by omega), if_neg h, if_neg (by omega), h1]; omega
   ·rw [if_neg (by omega), if_neg h, if_neg (by omega)]; omega
theorem sum_range (H : Int → Int) {lo hi L : Int} (hl : lo ≤ hi) (T : Nat) (h1 : L ≤ lo) (h2 : hi ≤ L + T) : sumTo (fun t => if lo ≤ L + t ∧ L + t < hi then H (L + t + 1) - H (L + t) else 0) T = H hi - H lo := by
 have ht := tele (fun t => H (if L + (t : Nat) < lo then lo else if hi < L + (t : Nat) then hi else L + (t : Nat))) T
 have e1 : (if L + (T : Nat) < lo then lo else if hi < L + (T : Nat) then hi else L + (T : Nat)) = hi := by
  by_cases c : L + (T : Nat) < lo
  ·rw [if_pos c]; omega
  ·rw [if_neg c]
   by_cases c2 : hi < L + (T : Nat)
   ·rw [if_pos c2]
   ·rw [if_neg c2]; omega
 have e2 : (if L + ((0 : Nat) : Int) < lo then lo else if hi < L + ((0 : Nat) : Int) then hi else L + ((0 : Nat) : Int)) = lo := by
  by_cases c : L + ((0 : Nat) : Int) < lo
  ·rw [if_pos c]
  ·rw [if_neg c, if_neg (by omega)]; omega
 simp only [e1, e2] at ht
 rw [← ht]
 refine sumTo_ext _ fun t _ => ?_
 by_cases c : lo ≤ L + t ∧ L + t < hi
 ·rw [if_pos c, if_neg (by omega), if_neg (by omega), if_neg (by omega), if_neg (by omega)]
  rw [show L + ((t + 1 : Nat) : Int) = L + t + 1 by omega]
 ·rw [if_neg c]
  by_cases c1 : L + (t : Int) < lo
  ·rw [if_pos c1]
   by_cases c2 : L + ((t + 1 : Nat) : Int) < lo
   ·rw [if_pos c2]; omega
   ·rw [if_neg c2, if_neg (by omega), show L + ((t + 1 : Nat) : Int) = lo by omega]; omega
  ·rw [if_neg c1, if_neg (show ¬ L + ((t + 1 : Nat) : Int) < lo by omega), if_pos (show hi < L + ((t + 1 : Nat) : Int) by omega)]
   by_cases c2 : hi < L + (t : Int)
   ·rw [if_pos c2]; omega
   ·rw [if_neg c2, show L + (t : Int) = hi by omega]; omega
def sgnE (a b : Int × Int) (t : Int) : Int := if a.2 ≤ t ∧ t < b.2 then 1 else if b.2 ≤ t ∧ t < a.2 then -1 else 0
theorem sgn_sum {e : Nat → Int × Int} {n : Nat} (hp : e n = e 0) (t : Int) : sumTo (fun i => sgnE (e i) (e (i + 1)) t) n = 0 := by
 have := tele (fun i => if t < (e i).2 then 1 else 0) n
 simp only [hp] at this
 rw [Int.sub_self] at this
 rw [← this]
 refine sumTo_ext _ fun i _ => ?_
 unfold sgnE
 by_cases c1 : t < (e (i + 1)).2
 ·by_cases c2 : t < (e i).2
  ·rw [if_neg (by omega), if_neg (by omega), if_pos c1, if_pos c2]; rfl
  ·rw [if_pos (by omega), if_pos c1, if_neg c2]; rfl
 ·by_cases c2 : t < (e i).2
  ·rw [if_neg (by omega), if_pos (by omega), if_neg c1, if_pos c2]; rfl
  ·rw [if_neg (by omega), if_neg (by omega), if_neg c1, if_neg c2]; rfl
theorem row_le {e : Nat → Int × Int} {n : Nat} (hp : e n = e 0) {N t : Int} (hN : 0 < N) (hd : ∀ i, i < n → (e (i + 1)).2 - (e i).2 ≠ 0 → (e (i + 1)).2 - (e i).2 ∣ N)
  (hf : ∀ x, wnd (fun i => mulp (N * 2) (e i)) n (x, N * (2 * t + 1)) ≤ 0) : sumTo (fun i => sgnE (e i) (e (i + 1)) t * crossX N 2 e (2 * t + 1) i) n ≤ 0 := by
 have hL := level_of (n := n) (M := 2) (l := 2 * t + 1) hN hd (fun i => by omega)
 obtain ⟨K, hK⟩ := far_all (P := fun i M => -M ≤ crossX N 2 e (2 * t + 1) i ∧ crossX N 2 e (2 * t + 1) i ≤ M) (fun i => ⟨(crossX N 2 e (2 * t + 1) i).natAbs, fun M hM => by omega⟩) n
 obtain ⟨B, hB⟩ : ∃ B : Nat, K ≤ B := ⟨K.natAbs, by omega⟩
 have hX := hK B hB
 have h0 : sumTo (fun x : Nat => wnd (fun i => mulp (N * 2) (e i)) n ((x : Int) - B, N * (2 * t + 1))) (2 * B) ≤ 0 := sum_le _ fun x _ => hf _
 have h1 : sumTo (fun x : Nat => wnd (fun i => mulp (N * 2) (e i)) n ((x : Int) - B, N * (2 * t + 1))) (2 * B) = sumTo (fun i => sumTo (fun x : Nat => psv (mulp (N * 2) (e i)) (mulp (N * 2) (e (i + 1))) ((x : Int) - B, N * (2 * t + 1))) (2 * B)) n := sum_swap _ _ _
 have h2 : ∀ i, i < n → sumTo (fun x : Nat => psv (mulp (N * 2) (e i)) (mulp (N * 2) (e (i + 1))) ((x : Int) - B, N * (2 * t + 1))) (2 * B) = sgnE (e i) (e (i + 1)) t * crossX N 2 e (2 * t + 1) i + (B : Int) * sgnE (e i) (e (i + 1)) t := by
  intro i hi
  obtain ⟨b1, b2⟩ := hX i hi
  have hs : ∀ x : Nat, psv (mulp (N * 2) (e i)) (mulp (N * 2) (e (i + 1))) ((x : Int) - B, N * (2 * t + 1)) = if (x : Int) < crossX N 2 e (2 * t + 1) i + B then sgnE (e i) (e (i + 1)) t else 0 := by
   intro x
   obtain ⟨p1, p2, p3⟩ := hL.psv hi ((x : Int) - B)
   have y1 : ∀ j, (mulp (N * 2) (e j)).2 < N * (2 * t + 1) ↔ (e j).2 ≤ t := fun j => by
    have : (mulp (N * 2) (e j)).2 = N * (2 * (e j).2) := by unfold mulp; simp only [Int.mul_assoc]
    rw [this, mul_lt_iff hN]; omega
   have y2 : ∀ j, N * (2 * t + 1) < (mulp (N * 2) (e j)).2 ↔ t < (e j).2 := fun j => by
    have : (mulp (N * 2) (e j)).2 = N * (2 * (e j).2) := by unfold mulp; simp only [Int.mul_assoc]
    rw [this, mul_lt_iff hN]; omega
   have hc : Cross (fun i => mulp (N * 2) (e i)) (N * (2 * t + 1)) i ↔ ((e i).2 ≤ t ∧ t < (e (i + 1)).2) ∨ ((e (i + 1)).2 ≤ t ∧ t < (e i).2) := by
    unfold Cross
    simp only [y1, y2]
   rw [hc] at p1 p2 p3
   simp only [y1] at p1 p2 p3
   unfold sgnE
   by_cases c1 : (e i).2 ≤ t ∧ t < (e (i + 1)).2
   ·by_cases c : (x : Int) < crossX N 2 e (2 * t + 1) i + B
    ·rw [if_pos c, if_pos c1, p3 (.inl c1) (by omega), if_pos c1.1]
    ·rw [if_neg c, p2 (.inl c1) (by omega)]
   ·by_cases c2 : (e (i + 1)).2 ≤ t ∧ t < (e i).2
    ·by_cases c : (x : Int) < crossX N 2 e (2 * t + 1) i + B
     ·rw [if_pos c, if_neg c1, if_pos c2, p3 (.inr c2) (by omega), if_neg (by omega)]
     ·rw [if_neg c, p2 (.inr c2) (by omega)]
    ·rw [if_neg c1, if_neg c2, p1 (by omega)]
     by_cases c : (x : Int) < crossX N 2 e (2 * t + 1) i + B
     ·rw [if_pos c]
     ·rw [if_neg c]
  rw [sumTo_ext _ (fun x _ => hs x), sum_count _ _ (by omega)]
  by_cases c : ((2 * B : Nat) : Int) ≤ crossX N 2 e (2 * t + 1) i + B
  ·rw [if_pos c, show ((2 * B : Nat) : Int) = crossX N 2 e (2 * t + 1) i + B by omega, Int.mul_add, Int.mul_comm (B : Int)]
  ·rw [if_neg c, Int.mul_add, Int.mul_comm (B : Int)]
 rw [h1, sumTo_ext _ h2, sumTo_add] at h0
 have h3 : sumTo (fun i => (B : Int) * sgnE (e i) (e (i + 1)) t) n = 0 := by
  have hm : ∀ m, sumTo (fun i => (B : Int) * sgnE (e i) (e (i + 1)) t) m = (B : Int) * sumTo (fun i => sgnE (e i) (e (i + 1)) t) m := by
   intro m
   induction m with
   |zero => rw [sumTo, sumTo, Int.mul_zero]
   |succ m ih => rw [sumTo, sumTo, ih, Int.mul_add]
  rw [hm, sgn_sum hp, Int.mul_zero]
 omega
theorem edge_sum {a b : Int × Int} {N L : Int} (hd : b.2 - a.2 ≠ 0 → b.2 - a.2 ∣ N) (T : Nat) (a1 : L ≤ a.2) (a2 : a.2 ≤ L + T) (b1 : L ≤ b.2) (b2 : b.2 ≤ L + T) :
  sumTo (fun t => sgnE a b (L + t) * (N * 2 * a.1 + N / (b.2 - a.2) * (2 * (L + t) + 1 - 2 * a.2) * (b.1 - a.1))) T = N * ((a.1 + b.1) * (b.2 - a.2)) := by
 by_cases h0 : b.2 - a.2 = 0
 ·rw [h0, Int.mul_zero, Int.mul_zero]
  refine sumTo_zero _ fun t _ => ?_
  unfold sgnE
  rw [if_neg (by omega), if_neg (by omega), Int.zero_mul]
 ·have hq := Int.mul_ediv_cancel' (hd h0)
  generalize N / (b.2 - a.2) = q at *
  have hH : ∀ τ : Int, (fun τ : Int => N * 2 * a.1 * τ + q * (b.1 - a.1) * (τ * τ - 2 * a.2 * τ)) (τ + 1) - (fun τ : Int => N * 2 * a.1 * τ + q * (b.1 - a.1) * (τ * τ - 2 * a.2 * τ)) τ = N * 2 * a.1 + q * (2 * τ + 1 - 2 * a.2) * (b.1 - a.1) := fun τ => by simp only; grind
  have hE : (fun τ : Int => N * 2 * a.1 * τ + q * (b.1 - a.1) * (τ * τ - 2 * a.2 * τ)) b.2 - (fun τ : Int => N * 2 * a.1 * τ + q * (b.1 - a.1) * (τ * τ - 2 * a.2 * τ)) a.2 = N * ((a.1 + b.1) * (b.2 - a.2)) := by simp only; subst hq; grind
  rw [← hE]
  generalize (fun τ : Int => N * 2 * a.1 * τ + q * (b.1 - a.1) * (τ * τ - 2 * a.2 * τ)) = H at *
  by_cases hab : a.2 ≤ b.2
  ·rw [← sum_range H hab T a1 b2]
   refine sumTo_ext _ fun t _ => ?_
   rw [hH]
   unfold sgnE
   by_cases c : a.2 ≤ L + t ∧ L + t < b.2
   ·rw [if_pos c, if_pos c, Int.one_mul]
   ·rw [if_neg c, if_neg c, if_neg (by omega), Int.zero_mul]
  ·have := sum_range H (show b.2 ≤ a.2 by omega) T b1 a2
   rw [show H b.2 - H a.2 = -(H a.2 - H b.2) by omega, ← this, ← sumTo_neg]
   refine sumTo_ext _ fun t _ => ?_
   rw [hH]
   unfold sgnE
   by_cases c : b.2 ≤ L + t ∧ L + t < a.2
   ·rw [if_neg (by omega), if_pos c, if_pos c, Int.neg_mul, Int.one_mul]
   ·rw [if_neg (by omega), if_neg c, if_neg c, Int.zero_mul]; rfl
theorem area_le {r : List (Int × Int)} {N : Int} (hN : 0 < N) (hd : ∀ i, i < r.length → (nx r (i + 1)).2 - (nx r i).2 ≠ 0 → (nx r (i + 1)).2 - (nx r i).2 ∣ N)
  (hf : ∀ t x, wnd (fun i => mulp (N * 2) (nx r i)) r.length (x, N * (2 * t + 1)) ≤ 0) : area r ≤ 0 := by
 have hp : nx r r.length = nx r 0 := by have := nx_per r 0; rwa [Nat.zero_add] at this
 obtain ⟨K, hK⟩ := far_all (P := fun i M => -M ≤ (nx r i).2 ∧ (nx r i).2 ≤ M) (fun i => ⟨(nx r i).2.natAbs, fun M hM => by omega⟩) (r.length + 1)
 obtain ⟨B, hB⟩ : ∃ B : Nat, K ≤ B := ⟨K.natAbs, by omega⟩
 have hX := hK B hB
 have h0 : sumTo (fun t : Nat => sumTo (fun i => sgnE (nx r i) (nx r (i + 1)) (-(B : Int) + t) * crossX N 2 (nx r) (2 * (-(B : Int) + t) + 1) i) r.length) (2 * B) ≤ 0 := sum_le _ fun t _ => row_le hp hN hd (hf _)
 rw [sum_swap (fun i t => sgnE (nx r i) (nx r (i + 1)) (-(B : Int) + t) * crossX N 2 (nx r) (2 * (-(B : Int) + t) + 1) i)] at h0
 have h1 : ∀ i, i < r.length → sumTo (fun t : Nat => sgnE (nx r i) (nx r (i + 1)) (-(B : Int) + t) * crossX N 2 (nx r) (2 * (-(B : Int) + t) + 1) i) (2 * B) = N * crs0 (nx r i) (nx r (i + 1)) + ((fun i => N * ((nx r i).1 * (nx r i).2)) (i + 1) - (fun i => N * ((nx r i).1 * (nx r i).2)) i) := by
  intro i hi
  have b1 := hX i (by omega)
  have b2 := hX (i + 1) (by omega)
  have := edge_sum (a := nx r i) (b := nx r (i + 1)) (N := N) (L := -(B : Int)) (hd i hi) (2 * B) (by omega) (by omega) (by omega) (by omega)
  unfold crossX
  rw [this]
  unfold crs0
  simp only
  grind
 rw [sumTo_ext _ h1, sumTo_add, tele (fun i => N * ((nx r i).1 * (nx r i).2))] at h0
 simp only [hp] at h0
 have hm : ∀ m, sumTo (fun i => N * crs0 (nx r i) (nx r (i + 1))) m = N * sumTo (fun i => crs0 (nx r i) (nx r (i + 1))) m := by
  intro m
  induction m with
  |zero => rw [sumTo, sumTo, Int.mul_zero]
  |succ m ih => rw [sumTo, sumTo, ih, Int.mul_add]
 rw [hm] at h0
 have h2 : N * area r ≤ 0 := by unfold area; omega
 exact (sgP hN).2.2.2 h2
theorem round_once {r : List (Int × Int)} {p : Int × Int} (hs : Sound r) (hp : ¬ onRim r p) : wind r p = 0 ∨ wind r p = 1 := by
 have hC := Cyc.of hs
 obtain ⟨c, hc⟩ := hC.same
 obtain ⟨N, hN, hd⟩ := div_all (fun i => (nx r (i + 1)).2 - (nx r i).2) r.length
 have hlev : ∀ M l : Int, 0 < M → (∀ i, M * (nx r i).2 ≠ l) → (∀ x, wnd (fun i => mulp (N * M) (nx r i)) r.length (x, N * l) = 0 ∨ wnd (fun i => mulp (N * M) (nx r i)) r.length (x, N * l) = c ∨ wnd (fun i => mulp (N * M) (nx r i)) r.length (x, N * l) = c - 1) ∧ ((∃ i, i < r.length ∧ Cross (fun i => mulp (N * M) (nx r i)) (N * l) i) → c = 0 ∨ c = 1) := by
  intro M l hM hl
  have hNM := Int.mul_pos hN hM
  exact (level_of hN hd hl).told (hC.out hNM) (fun i hi z hz => by rw [upw_mulp hNM]; exact hc (N * M) hNM i hi z hz)
 have hc1 : c = 1 := by
  by_cases h1 : c = 1
  ·exact h1
  ·exfalso
   have := area_le hN hd (fun t x => by
    have hl := hlev 2 (2 * t + 1) (by omega) (fun i => by omega)
    by_cases hx : ∃ i, i < r.length ∧ Cross (fun i => mulp (N * 2) (nx r i)) (N * (2 * t + 1)) i
    ·have h2 := hl.2 hx
     have h3 := hl.1 x
     omega
    ·have hL := level_of (n := r.length) (M := 2) (l := 2 * t + 1) hN hd (fun i => by omega)
     have : wnd (fun i => mulp (N * 2) (nx r i)) r.length (x, N * (2 * t + 1)) = 0 := sumTo_zero _ fun i hi => (hL.psv hi x).1 fun h => hx ⟨i, hi, h⟩
     omega)
   have := hs.2.1
   omega
 obtain ⟨K, hK⟩ := far_all (P := fun i M => i < r.length → meet (mvd (mulp M p) (0, 0)) (mvd (mulp M p) (0, -1)) (mulp M (nx r i)) (mulp M (nx r (i + 1))) = 0) (fun i => by
  by_cases hi : i < r.length
  ·obtain ⟨K, hK⟩ := far_one (fun ho => hp ⟨i, hi, ho⟩ : ¬ OnS (nx r i) (nx r (i + 1)) p) (0, 0) (0, -1)
   exact ⟨K, fun M hM _ => hK M hM⟩
  ·exact ⟨0, fun _ _ hi' => absurd hi' hi⟩) r.length
 obtain ⟨M, hM, hM2⟩ : ∃ M, K ≤ M ∧ 2 ≤ M := ⟨2 + K.natAbs, by omega, by omega⟩
 have h1 := way_same (e := fun i => mulp M (nx r i)) (n := r.length) (z := mvd (mulp M p) (0, 0)) (z' := mvd (mulp M p) (0, -1)) (by
  have := nx_per r 0
  rw [Nat.zero_add] at this
  simp only [this]) (fun i hi => hK M hM i hi hi)
 rw [mvd_zero, wnd_mulp (by omega), ← wind_wnd] at h1
 have h2 := wnd_mulp hN (fun i => mulp M (nx r i)) r.length (mvd (mulp M p) (0, -1))
 simp only [mulp_mulp] at h2
 have h3 : mulp N (mvd (mulp M p) (0, -1)) = (N * (M * p.1), N * (M * p.2 - 1)) := by unfold mulp mvd; simp only [Int.zero_add, show -1 + M * p.2 = M * p.2 - 1 by omega]
 have h4 := (hlev M (M * p.2 - 1) (by omega) (fun i hx => by
  have h5 : M * (p.2 - (nx r i).2) = 1 := by rw [Int.mul_sub]; omega
  have h6 := (sgP (w := M) (q := p.2 - (nx r i).2) (by omega)).1 (by omega)
  have h7 := Int.mul_le_mul_of_nonneg_left (show 1 ≤ p.2 - (nx r i).2 by omega) (show 0 ≤ M by omega)
  omega)).1 (N * (M * p.1))
 rw [← h3, h2, ← h1] at h4
 omega
theorem sideW_side {r : List (Int × Int)} {p : Int × Int} (hs : Sound r) : sideW r p = side r p := by
 unfold sideW side
 by_cases hp : onRim r p
 ·rw [if_pos hp, if_pos hp]
 ·rw [if_neg hp, if_neg hp]
  have h1 := wind_odd hp
  rcases round_once hs hp with h | h
  ·rw [h] at h1 ⊢
   by_cases ho : oddTo (fun i => cutB (nx r i) (nx r (i + 1)) p) r.length = true
   ·rw [if_pos ho] at h1; omega
   ·rw [if_neg ho, if_neg (by omega)]
  ·rw [h] at h1 ⊢
   by_cases ho : oddTo (fun i => cutB (nx r i) (nx r (i + 1)) p) r.length = true
   ·rw [if_pos ho, if_pos rfl]
   ·rw [if_neg ho] at h1; omega
end Go.Proofs.YtjlnjjmomohpaaaGreat

namespace Go.Proofs.YtjlnjjmomohpaaaGreat

def InW (L H p : Int × Int) : Prop := L.1 ≤ p.1 ∧ p.1 ≤ H.1 ∧ L.2 ≤ p.2 ∧ p.2 ≤ H.2
instance (L H p : Int × Int) : Decidable (InW L H p) := by unfold InW; infer_instance
section
variable {L H a b p : Int × Int}
end
section
variable {L H p q : Int × Int} {r : List (Int × Int)}
end
end Go.Proofs.YtjlnjjmomohpaaaGreat
