/- How great a value is, and how long its text (plain). -/
import Derived.Test.YtmjooghfghmngaaDoorJPrx
import Derived.Test.YtmjooghfghmngaaDoorJEnd
namespace Go.Proofs.YtmjooghfghmngaaDoor
open Go.RowKit Go.Shelf Go.Lib

def sumK : List ByteArray → Nat
  | [] => 0
  | k :: r => k.size + 1 + sumK r
def sumX (f : JV → Nat) : List JV → Nat
  | [] => 0
  | x :: r => f x + 1 + sumX f r
def szJ : Nat → JV → Nat
  | 0, _ => 0
  | d + 1, .mk _ t ks xs => t.size + sumK ks + sumX (szJ d) xs + 1
/-- Texts and lists in it are no longer than that. -/
def BT (N : Nat) : Nat → JV → Prop
  | 0, _ => True
  | d + 1, .mk _ t ks xs => t.size ≤ N ∧ (∀ k ∈ ks, k.size ≤ N) ∧ ks.length ≤ N ∧ xs.length ≤ N ∧ ∀ x ∈ xs, BT N d x
theorem sumK_mem : ∀ {ks : List ByteArray} {k : ByteArray}, k ∈ ks → k.size ≤ sumK ks
  | a :: r, k, h => by
    rw [sumK]
    rcases List.mem_cons.1 h with rfl | h
    · omega
    · have := sumK_mem h; omega
theorem sumK_len : ∀ ks : List ByteArray, ks.length ≤ sumK ks
  | [] => Nat.le_refl _
  | a :: r => by have := sumK_len r; rw [sumK, List.length_cons]; omega
theorem sumX_mem {f : JV → Nat} : ∀ {xs : List JV} {x : JV}, x ∈ xs → f x ≤ sumX f xs
  | a :: r, x, h => by
    rw [sumX]
    rcases List.mem_cons.1 h with rfl | h
    · omega
    · have := sumX_mem (f := f) h; omega
theorem sumX_len (f : JV → Nat) : ∀ xs : List JV, xs.length ≤ sumX f xs
  | [] => Nat.le_refl _
  | a :: r => by have := sumX_len f r; rw [sumX, List.length_cons]; omega
theorem sz_bt {N : Nat} : ∀ (d : Nat) (x : JV), szJ d x ≤ N → BT N d x
  | 0, _, _ => trivial
  | d + 1, .mk k t ks xs, h => by
    rw [szJ] at h
    have h1 := sumK_len ks
    have h2 := sumX_len (szJ d) xs
    exact ⟨by omega, fun k hk => by have := sumK_mem hk; omega, by omega, by omega, fun x hx => sz_bt d x (by have := sumX_mem (f := szJ d) hx; omega)⟩
theorem bt_tm {N : Nat} (hN : N ≤ maxLen) : ∀ (d : Nat) (x : JV), BT N d x → TM d x
  | 0, _, _ => trivial
  | d + 1, .mk _ _ _ _, ⟨h1, h2, h3, h4, h5⟩ => ⟨Nat.le_trans h1 hN, fun k hk => Nat.le_trans (h2 k hk) hN, Nat.le_trans h3 hN, Nat.le_trans h4 hN, fun x hx => bt_tm hN d x (h5 x hx)⟩
theorem quoted_len (t : ByteArray) (hv : Lib.validD t.data.toList = true) : (quotedL t).length ≤ 6 * t.size + 2 := by
  obtain ⟨ps, -, -, -, h4⟩ := shown_pieces t (t.size + 1) 0 (Nat.zero_le _) (by omega) (by rw [List.drop_zero]; exact hv)
  rw [List.drop_zero, ← Lib.size_eq] at h4
  unfold quotedL
  simp only [List.length_cons, List.length_append, List.length_nil]
  omega
theorem part_len {f : JV → List UInt8} {obj : Bool} {ks : List ByteArray} (hk : ∀ k ∈ ks, Lib.validD k.data.toList = true) (i : Nat) (x : JV) : (partJ f obj ks i x).length + 6 * sumK (ks.drop (i + 1)) ≤ 4 + (f x).length + 6 * sumK (ks.drop i) := by
  have h1 : (if 0 < i then [44] else ([] : List UInt8)).length ≤ 1 := by split <;> simp
  have hd : sumK (ks.drop (i + 1)) ≤ sumK (ks.drop i) ∧ (i < ks.length → sumK (ks.drop (i + 1)) + (ks.getD i ⟨#[]⟩).size ≤ sumK (ks.drop i)) := by
    rcases Nat.lt_or_ge i ks.length with hi | hi
    · have e : ks.drop i = ks[i] :: ks.drop (i + 1) := List.drop_eq_getElem_cons hi
      rw [e, sumK, List.getD_eq_getElem?_getD, List.getElem?_eq_getElem hi, Option.getD_some]
      exact ⟨by omega, fun _ => by omega⟩
    · rw [List.drop_eq_nil_of_le hi, List.drop_eq_nil_of_le (by omega)]
      exact ⟨Nat.le_refl _, fun h => by omega⟩
  unfold partJ
  cases obj with
  | false => simp only [List.length_append, Bool.false_eq_true, if_false, List.length_nil]; omega
  | true =>
    simp only [List.length_append, if_true, List.length_cons, List.length_nil]
    rcases Nat.lt_or_ge i ks.length with hi | hi
    · have hq := quoted_len (ks.getD i ⟨#[]⟩) (by
        rw [List.getD_eq_getElem?_getD, List.getElem?_eq_getElem hi, Option.getD_some]
        exact hk _ (List.getElem_mem hi))
      have := hd.2 hi
      omega
    · have e : (quotedL (ks.getD i ⟨#[]⟩)).length = 2 := by
        rw [List.getD_eq_getElem?_getD, List.getElem?_eq_none hi]; rfl
      omega
theorem len_parts {f : JV → List UInt8} {g : JV → Nat} {obj : Bool} {ks : List ByteArray} (hk : ∀ k ∈ ks, Lib.validD k.data.toList = true) : ∀ (xs : List JV) (i : Nat), (∀ x ∈ xs, (f x).length ≤ 16 * g x) → (partsJ f obj ks i xs).length ≤ 16 * sumX g xs + 6 * sumK (ks.drop i)
  | [], i, _ => by simp [partsJ]
  | x :: r, i, h => by
    have ih := len_parts (obj := obj) hk r (i + 1) (fun y hy => h y (by simp [hy]))
    have hx := h x (by simp)
    have hp := part_len (f := f) (obj := obj) hk i x
    rw [partsJ, List.length_append, sumX]
    omega
theorem print_len : ∀ (d n : Nat) (x : JV), soundJ n x = true → (printJ d x).length ≤ 16 * szJ d x
  | 0, _, _, _ => Nat.zero_le _
  | d + 1, n, .mk k t ks xs, h => by
    have hh : ∃ wi, headJ k t ks.length xs.length wi = true ∧ (wi = true → (∀ k ∈ ks, Lib.validD k.data.toList = true) ∧ ∀ x ∈ xs, (printJ d x).length ≤ 16 * szJ d x) := by
      cases n with
      | zero => exact ⟨false, h, fun h => by cases h⟩
      | succ n =>
        refine ⟨_, h, fun hw => ?_⟩
        rw [Bool.and_eq_true, List.all_eq_true, List.all_eq_true] at hw
        exact ⟨hw.1, fun x hx => print_len d n x (hw.2 x hx)⟩
    obtain ⟨wi, h1, h2⟩ := hh
    unfold headJ at h1
    rw [szJ]
    by_cases k1 : k = 1
    · rw [printJ, if_pos k1]; simp only [List.length_cons, List.length_nil]; omega
    by_cases k2 : k = 2
    · rw [printJ, if_neg k1, if_pos k2]; simp only [List.length_cons, List.length_nil]; omega
    by_cases k3 : k = 3
    · rw [printJ, if_neg k1, if_neg k2, if_pos k3]; simp only [List.length_cons, List.length_nil]; omega
    rw [if_neg (by omega)] at h1
    by_cases k4 : k = 4
    · rw [printJ, if_neg k1, if_neg k2, if_neg k3, if_pos k4, ← Lib.size_eq]; omega
    rw [if_neg k4] at h1
    by_cases k5 : k = 5
    · rw [if_pos k5, Bool.and_eq_true] at h1
      have := quoted_len t h1.1
      rw [printJ, if_neg k1, if_neg k2, if_neg k3, if_neg k4, if_pos k5]; omega
    rw [if_neg k5] at h1
    by_cases k6 : k = 6
    · rw [if_pos k6, Bool.and_eq_true, Bool.and_eq_true] at h1
      obtain ⟨h3, h4⟩ := h2 h1.2.2
      have := len_parts (obj := false) h3 xs 0 h4
      rw [List.drop_zero] at this
      rw [printJ, if_neg k1, if_neg k2, if_neg k3, if_neg k4, if_neg k5, if_pos k6]
      simp only [List.length_append, List.length_cons, List.length_nil]
      omega
    rw [if_neg k6] at h1
    by_cases k7 : k = 7
    · rw [if_pos k7, Bool.and_eq_true, Bool.and_eq_true] at h1
      obtain ⟨h3, h4⟩ := h2 h1.2.2
      have := len_parts (obj := true) h3 xs 0 h4
      rw [List.drop_zero] at this
      rw [printJ, if_neg k1, if_neg k2, if_neg k3, if_neg k4, if_neg k5, if_neg k6]
      simp only [List.length_append, List.length_cons, List.length_nil]
      omega
    rw [if_neg k7] at h1
    cases h1
end Go.Proofs.YtmjooghfghmngaaDoor
