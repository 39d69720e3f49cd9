/- Plain arithmetic of numbers of 160 bits in five parts of 32. No program is named here. -/
import Derived.Test.YtkkdjbmdfpmkpaaPlain
namespace Go.Proofs.Ytkkdjbmdfpmkpaa

def lim0 (n : Int) : Int := n % 4294967296
def lim1 (n : Int) : Int := n / 4294967296 % 4294967296
def lim2 (n : Int) : Int := n / 18446744073709551616 % 4294967296
def lim3 (n : Int) : Int := n / 79228162514264337593543950336 % 4294967296
def lim4 (n : Int) : Int := n / 340282366920938463463374607431768211456 % 4294967296
def Half (x : Int) : Prop := 0 ≤ x ∧ x ≤ 4294967295
theorem lim_half (n : Int) : Half (lim0 n) ∧ Half (lim1 n) ∧ Half (lim2 n) ∧ Half (lim3 n) ∧ Half (lim4 n) := by
  unfold Half lim0 lim1 lim2 lim3 lim4
  omega
/-- The sum of two parts and what is carried. -/
def sm (x y c : Int) : Int := (x + y + c) % 4294967296
def cr (x y c : Int) : Int := (x + y + c) / 4294967296
theorem cr_bd {x y c : Int} (hx : Half x) (hy : Half y) (h0 : 0 ≤ c) (h1 : c ≤ 1) : 0 ≤ cr x y c ∧ cr x y c ≤ 1 := by
  unfold Half at hx hy; unfold cr; omega
def c1 (a b : Int) : Int := cr (lim0 a) (lim0 b) 0
def c2 (a b : Int) : Int := cr (lim1 a) (lim1 b) (c1 a b)
def c3 (a b : Int) : Int := cr (lim2 a) (lim2 b) (c2 a b)
def c4 (a b : Int) : Int := cr (lim3 a) (lim3 b) (c3 a b)
theorem c1_is (a b : Int) : c1 a b = (a % 4294967296 + b % 4294967296) / 4294967296 := by unfold c1 cr lim0; omega
theorem c2_is (a b : Int) : c2 a b = (a % 18446744073709551616 + b % 18446744073709551616) / 18446744073709551616 := by
  unfold c2 cr lim1; rw [c1_is]; omega
theorem c3_is (a b : Int) : c3 a b = (a % 79228162514264337593543950336 + b % 79228162514264337593543950336) / 79228162514264337593543950336 := by
  unfold c3 cr lim2; rw [c2_is]; omega
theorem c4_is (a b : Int) : c4 a b = (a % 340282366920938463463374607431768211456 + b % 340282366920938463463374607431768211456) / 340282366920938463463374607431768211456 := by
  unfold c4 cr lim3; rw [c3_is]; omega
theorem sm0 (a b : Int) : sm (lim0 a) (lim0 b) 0 = lim0 (a + b) := by unfold sm lim0; omega
theorem sm1 (a b : Int) : sm (lim1 a) (lim1 b) (c1 a b) = lim1 (a + b) := by rw [c1_is]; unfold sm lim1; omega
theorem sm2 (a b : Int) : sm (lim2 a) (lim2 b) (c2 a b) = lim2 (a + b) := by rw [c2_is]; unfold sm lim2; omega
theorem sm3 (a b : Int) : sm (lim3 a) (lim3 b) (c3 a b) = lim3 (a + b) := by rw [c3_is]; unfold sm lim3; omega
theorem sm4 (a b : Int) : sm (lim4 a) (lim4 b) (c4 a b) = lim4 (a + b) := by rw [c4_is]; unfold sm lim4; omega
/-- Turned bit for bit a number is one below its opposite. -/
theorem not0 (n : Int) : 4294967295 - lim0 n = lim0 (-n - 1) := by unfold lim0; omega
theorem not1 (n : Int) : 4294967295 - lim1 n = lim1 (-n - 1) := by unfold lim1; omega
theorem not2 (n : Int) : 4294967295 - lim2 n = lim2 (-n - 1) := by unfold lim2; omega
theorem not3 (n : Int) : 4294967295 - lim3 n = lim3 (-n - 1) := by unfold lim3; omega
theorem not4 (n : Int) : 4294967295 - lim4 n = lim4 (-n - 1) := by unfold lim4; omega
/-- The parts of a pair of words. -/
theorem val_lim {h l : Int} (w : Wf h l) : lim0 (val h l) = l % 4294967296 ∧ lim1 (val h l) = l / 4294967296 % 4294967296 ∧ lim2 (val h l) = uw h % 4294967296 ∧ lim3 (val h l) = uw h / 4294967296 % 4294967296 ∧ lim4 (val h l) = (if h < 0 then 4294967295 else 0) := by
  unfold Wf at w
  unfold lim0 lim1 lim2 lim3 lim4 val uw
  refine ⟨by omega, by omega, by omega, by omega, ?_⟩
  split <;> omega
/-- What is whole: the two words, and whether they are the number. -/
def wHi (n : Int) : Int := sw (lim3 n * 4294967296 + lim2 n)
def wLo (n : Int) : Int := lim1 n * 4294967296 + lim0 n
def wOk (n : Int) : Bool := lim4 n == (if 2147483648 ≤ lim3 n then 4294967295 else 0)
theorem whole_ok {n : Int} (h0 : -340282366920938463463374607431768211456 ≤ n) (h1 : n < 340282366920938463463374607431768211456) : wOk n = decide (InR n) := by
  unfold wOk
  rw [Bool.eq_iff_iff, beq_iff_eq, decide_eq_true_iff]
  unfold InR lim3 lim4
  split <;> omega
theorem whole_val {n : Int} (h : InR n) : val (wHi n) (wLo n) = n := by
  unfold InR at h
  unfold val wHi wLo sw lim0 lim1 lim2 lim3
  omega
theorem whole_wf (n : Int) : Wf (wHi n) (wLo n) := by
  unfold Wf wHi wLo sw lim0 lim1
  omega
end Go.Proofs.Ytkkdjbmdfpmkpaa
