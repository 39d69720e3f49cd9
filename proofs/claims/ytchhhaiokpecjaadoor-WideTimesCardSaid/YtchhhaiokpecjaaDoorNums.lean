/- Plain facts: a number so and so many times; the number that digits tell, and its digits. No program is named here. -/
import Derived.Test.YtchhhaiokpecjaaDoorDigits
namespace Go.Proofs.YtchhhaiokpecjaaDoor
open Go.Lib

theorem plus_of (a b : Int) (ha : InR a) (hb : InR b) (hs : InR (a + b)) : pFit (hiOf a) (loOf a) (hiOf b) (loOf b) = true ∧ pHi (hiOf a) (loOf a) (hiOf b) (loOf b) = hiOf (a + b) ∧ pLo (loOf a) (loOf b) = loOf (a + b) := by
  have wa := wf_of ha
  have wb := wf_of hb
  have hf := plus_fit wa wb
  rw [val_of, val_of] at hf
  have hv := plus_val wa wb (by rw [val_of, val_of]; exact hs)
  rw [val_of, val_of] at hv
  obtain ⟨e1, e2⟩ := val_inj plus_wf (wf_of hs) (hv.trans (val_of _).symm)
  exact ⟨by rw [hf]; exact decide_eq_true hs, e1, e2⟩
theorem times_from (x : Int) (h1 : -9223372036854775808 ≤ x) (h2 : x ≤ 9223372036854775807) : ∀ (n : Nat) (k : Int), 0 ≤ k → k + n ≤ 255 →
    totFrom (List.replicate n (hiOf x, loOf x)) (hiOf (x * k), loOf (x * k)) = some (hiOf (x * (k + n)), loOf (x * (k + n)))
  | 0, k, _, _ => by simp [totFrom]
  | n + 1, k, h0, h => by
    have hx : InR x := by unfold InR; omega
    have hk : InR (x * k) := mul_inR x k h1 h2 (by omega) (by omega)
    have hs : x * k + x = x * (k + 1) := by rw [Int.mul_add, Int.mul_one]
    have hk1 : InR (x * k + x) := by rw [hs]; exact mul_inR x (k + 1) h1 h2 (by omega) (by omega)
    obtain ⟨e1, e2, e3⟩ := plus_of (x * k) x hk hx hk1
    rw [List.replicate_succ]
    simp only [totFrom, e1, if_true, e2, e3, hs]
    rw [times_from x h1 h2 n (k + 1) (by omega) (by omega)]
    rw [show k + 1 + (n : Int) = k + ((n + 1 : Nat) : Int) by omega]
theorem times_tot (x : Int) (h1 : -9223372036854775808 ≤ x) (h2 : x ≤ 9223372036854775807) (n : Nat) (hn : n ≤ 255) :
    tH (List.replicate n (hiOf x, loOf x)) = hiOf (x * n) ∧ tL (List.replicate n (hiOf x, loOf x)) = loOf (x * n) ∧ tE (List.replicate n (hiOf x, loOf x)) = 0 := by
  have h := times_from x h1 h2 n 0 (by omega) (by omega)
  have e0 : hiOf (x * 0) = 0 ∧ loOf (x * 0) = 0 := by rw [Int.mul_zero]; decide
  rw [e0.1, e0.2, Int.zero_add] at h
  unfold tH tL tE
  rw [h]
  exact ⟨rfl, rfl, rfl⟩

def isDigit (d : UInt8) : Prop := 48 ≤ d.toNat ∧ d.toNat ≤ 57
def num (ds : List UInt8) : Nat := ds.foldl (fun n d => n * 10 + (d.toNat - 48)) 0
theorem num_snoc (ds : List UInt8) (d : UInt8) : num (ds ++ [d]) = num ds * 10 + (d.toNat - 48) := by unfold num; rw [List.foldl_append]; rfl
theorem foldl_ge (ds : List UInt8) : ∀ a : Nat, a ≤ ds.foldl (fun n d => n * 10 + (d.toNat - 48)) a := by
  induction ds with
  | nil => intro a; exact Nat.le_refl a
  | cons d ds ih => intro a; exact Nat.le_trans (by omega) (ih (a * 10 + (d.toNat - 48)))
theorem num_pos {c : UInt8} {cs : List UInt8} (h : isDigit c) (hc : c ≠ 48) : 0 < num (c :: cs) := by
  have h48 : c.toNat ≠ 48 := fun e => hc (UInt8.toNat_inj.1 e)
  unfold isDigit at h
  exact Nat.lt_of_lt_of_le (show 0 < 0 * 10 + (c.toNat - 48) by omega) (foldl_ge cs _)
theorem num_lt : ∀ (k : Nat) (ds : List UInt8), ds.length = k → (∀ d ∈ ds, isDigit d) → num ds < 10 ^ k
  | 0, ds, hl, _ => by obtain rfl := List.eq_nil_of_length_eq_zero hl; decide
  | k + 1, ds, hl, hd => by
    obtain ⟨init, d, rfl⟩ : ∃ init d, ds = init ++ [d] := ⟨ds.dropLast, ds.getLast (by intro e; rw [e] at hl; cases hl), (List.dropLast_concat_getLast _).symm⟩
    have h1 := num_lt k init (by simpa using hl) (fun x hx => hd x (List.mem_append_left _ hx))
    have h2 := hd d (by simp)
    unfold isDigit at h2
    rw [num_snoc, Nat.pow_succ]
    omega
theorem byte_back {d : UInt8} (h : isDigit d) : UInt8.ofNat (48 + (d.toNat - 48)) = d := by
  unfold isDigit at h
  rw [show 48 + (d.toNat - 48) = d.toNat by omega]
  exact UInt8.ofNat_toNat
theorem digits_num : ∀ (k : Nat) (ds : List UInt8), ds.length = k + 1 → (∀ d ∈ ds, isDigit d) → (ds = [48] ∨ ds.head? ≠ some 48) → decDigits (num ds) = ds
  | 0, ds, hl, hd, _ => by
    obtain ⟨d, rfl⟩ := List.length_eq_one_iff.1 hl
    have h := hd d (by simp)
    have e : num [d] = d.toNat - 48 := by unfold num; simp
    have h' := h
    unfold isDigit at h'
    rw [e, decDigits_one (by omega), byte_back h]
  | k + 1, ds, hl, hd, h0 => by
    obtain ⟨init, d, rfl⟩ : ∃ init d, ds = init ++ [d] := ⟨ds.dropLast, ds.getLast (by intro e; rw [e] at hl; cases hl), (List.dropLast_concat_getLast _).symm⟩
    have hli : init.length = k + 1 := by simpa using hl
    have hdi : ∀ x ∈ init, isDigit x := fun x hx => hd x (List.mem_append_left _ hx)
    have h := hd d (by simp)
    obtain ⟨c, cs, rfl⟩ : ∃ c cs, init = c :: cs := by cases init with | nil => cases hli | cons c cs => exact ⟨c, cs, rfl⟩
    have hc : c ≠ 48 := by
      rcases h0 with h0 | h0
      · have := congrArg List.length h0; simp at this
      · intro e; apply h0; rw [e]; rfl
    have hp := num_pos (cs := cs) (hdi c (by simp)) hc
    have ih := digits_num k (c :: cs) hli hdi (Or.inr (by simpa using hc))
    have h' := h
    unfold isDigit at h'
    rw [num_snoc, decDigits_big (by omega), show (num (c :: cs) * 10 + (d.toNat - 48)) / 10 = num (c :: cs) by omega, show (num (c :: cs) * 10 + (d.toNat - 48)) % 10 = d.toNat - 48 by omega, ih, byte_back h]
end Go.Proofs.YtchhhaiokpecjaaDoor
