/- Plain facts on decimal digits: a long number's digits are those of its two parts, with zeros between. No program is named here. -/
import Derived.Test.YtchhhaiokpecjaaDoorPlain
import Derived.Lib.ItoaNum
import Derived.Lib.ItoaLen
import Derived.Lib.Repeat
namespace Go.Proofs.YtchhhaiokpecjaaDoor
open Go.Lib

theorem decDigits_big {u : Nat} (h : ¬ u < 10) : decDigits u = decDigits (u / 10) ++ [UInt8.ofNat (48 + u % 10)] := by rw [decDigits, dif_neg h]
theorem digits_parts (q : Nat) (hq : 0 < q) : ∀ (k r : Nat), r < 10 ^ (k + 1) → decDigits (q * 10 ^ (k + 1) + r) = decDigits q ++ (List.replicate (k + 1 - nDigits r) 48 ++ decDigits r)
  | 0, r, hr => by
    have hr' : r < 10 := by simpa using hr
    rw [decDigits_big (by omega), nDigits_small hr', decDigits_one hr']
    have e1 : (q * 10 ^ (0 + 1) + r) / 10 = q := by omega
    have e2 : (q * 10 ^ (0 + 1) + r) % 10 = r := by omega
    rw [e1, e2]
    rfl
  | k + 1, r, hr => by
    have hp : 0 < 10 ^ (k + 1) := Nat.pow_pos (by decide)
    have e0 : q * 10 ^ (k + 1 + 1) = (q * 10 ^ (k + 1)) * 10 := by rw [Nat.pow_succ 10 (k + 1), Nat.mul_assoc]
    have hge : 1 ≤ q * 10 ^ (k + 1) := Nat.mul_pos hq hp
    have e1 : (q * 10 ^ (k + 1 + 1) + r) / 10 = q * 10 ^ (k + 1) + r / 10 := by rw [e0]; omega
    have e2 : (q * 10 ^ (k + 1 + 1) + r) % 10 = r % 10 := by rw [e0]; omega
    have hr1 : r / 10 < 10 ^ (k + 1) := by rw [Nat.pow_succ] at hr; omega
    rw [decDigits_big (by rw [e0]; omega), e1, e2, digits_parts q hq k (r / 10) hr1]
    by_cases h : r < 10
    · have e3 : r / 10 = 0 := by omega
      rw [e3, nDigits_small h, nDigits_small (u := 0) (by omega), decDigits_one h, decDigits_one (i := 0) (by omega), Nat.mod_eq_of_lt h]
      simp only [Nat.add_sub_cancel, List.append_assoc]
      rw [show (List.replicate k (48 : UInt8) ++ ([UInt8.ofNat (48 + 0)] ++ [UInt8.ofNat (48 + r)])) = (List.replicate k 48 ++ [48]) ++ [UInt8.ofNat (48 + r)] from by simp, ← List.replicate_succ']
    · rw [decDigits_big h, nDigits_big h, show k + 1 + 1 - (nDigits (r / 10) + 1) = k + 1 - nDigits (r / 10) by omega]
      simp only [List.append_assoc]
theorem repeat_zeros (c : Nat) : repeatL [48] c = List.replicate c 48 := by
  induction c with
  | zero => rfl
  | succ n ih => rw [repeatL, ih, List.replicate_succ]; rfl

/-- The words of a number's size. -/
def sH (h l : Int) : Int := if h < 0 then sdif 0 (uw h) (sbor 0 l 0) else uw h
def sL (h l : Int) : Int := if h < 0 then sdif 0 l 0 else l
theorem size_val {h l : Int} (w : Wf h l) : sH h l * 18446744073709551616 + sL h l = ((val h l).natAbs : Int) ∧ 0 ≤ sH h l ∧ sH h l ≤ 9223372036854775808 ∧ 0 ≤ sL h l ∧ sL h l < 18446744073709551616 := by
  unfold Wf at w
  unfold sH sL val sdif sbor uw
  split
  · split <;> omega
  · omega
end Go.Proofs.YtchhhaiokpecjaaDoor
