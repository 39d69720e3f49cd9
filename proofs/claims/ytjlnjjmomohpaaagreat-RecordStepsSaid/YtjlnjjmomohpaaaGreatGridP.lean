/- Plain facts of a grid of cells: what a number comes to, divided and cut down; lists of cells by the first coordinate, then by the second; the least window that has all corners of a ring. No program is named here. -/
import Derived.Test.YtjlnjjmomohpaaaGreatPlane
namespace Go.Proofs.YtjlnjjmomohpaaaGreat

def cdv (n : Int) : Int := n / 268435456
def cdP (p : Int × Int) : Int × Int := (cdv p.1, cdv p.2)
theorem cut_quo (n : Int) : (0 ≤ n ∧ n.tdiv 268435456 = n / 268435456 ∧ n.tmod 268435456 = n % 268435456) ∨ (n < 0 ∧ n.tdiv 268435456 = -((-n) / 268435456) ∧ n.tmod 268435456 = -((-n) % 268435456)) := by
 by_cases h : 0 ≤ n
 ·exact .inl ⟨h, Int.tdiv_eq_ediv_of_nonneg h, Int.tmod_eq_emod_of_nonneg h⟩
 ·refine .inr ⟨by omega, ?_, ?_⟩
  ·rw [← Int.tdiv_eq_ediv_of_nonneg (by omega), Int.neg_tdiv, Int.neg_neg]
  ·rw [← Int.tmod_eq_emod_of_nonneg (by omega), Int.neg_tmod, Int.neg_neg]
theorem cut_facts {n : Int} (h : -1073741824 ≤ n ∧ n ≤ 1073741824) : ∃ q r : Int, n.tdiv 268435456 = q ∧ n.tmod 268435456 = r ∧ (-4 ≤ q ∧ q ≤ 4) ∧ (-268435456 < r ∧ r < 268435456) ∧ ((n < 0 ∧ r < 0 ∧ cdv n = q - 1) ∨ (n < 0 ∧ r = 0 ∧ cdv n = q) ∨ (¬ n < 0 ∧ ¬ r < 0 ∧ cdv n = q)) := by
 refine ⟨_, _, rfl, rfl, ?_⟩
 unfold cdv
 rcases cut_quo n with ⟨h0, h1, h2⟩ | ⟨h0, h1, h2⟩ <;> rw [h1, h2] <;> omega
theorem cdv_bd {n : Int} (h : -1073741824 ≤ n ∧ n ≤ 1073741824) : -4 ≤ cdv n ∧ cdv n ≤ 4 := by unfold cdv; omega
theorem cdv_mono {a b : Int} (h : a ≤ b) : cdv a ≤ cdv b := by unfold cdv; omega
def yrow (x y : Int) (m : Nat) : List (Int × Int) := (List.range m).map fun (j : Nat) => (x, y + (j : Int))
def spP (x : Int) (n : Nat) (y : Int) (m : Nat) : List (Int × Int) := (List.range n).flatMap fun (i : Nat) => yrow (x + (i : Int)) y m
theorem yrow_zero (x y : Int) : yrow x y 0 = [] := rfl
theorem yrow_succ (x y : Int) (m : Nat) : yrow x y (m + 1) = yrow x y m ++ [(x, y + (m : Int))] := by
 unfold yrow; rw [List.range_succ, List.map_append]; rfl
theorem yrow_len (x y : Int) (m : Nat) : (yrow x y m).length = m := by simp [yrow]
theorem spP_zero (x y : Int) (m : Nat) : spP x 0 y m = [] := rfl
theorem spP_succ (x : Int) (n : Nat) (y : Int) (m : Nat) : spP x (n + 1) y m = spP x n y m ++ yrow (x + (n : Int)) y m := by
 unfold spP; rw [List.range_succ, List.flatMap_append, List.flatMap_cons, List.flatMap_nil, List.append_nil]
theorem spP_len (x y : Int) (m : Nat) : ∀ n, (spP x n y m).length = n * m
 |0 => by simp [spP_zero]
 |n + 1 => by rw [spP_succ, List.length_append, spP_len x y m n, yrow_len, Nat.succ_mul]
theorem mem_yrow {x y : Int} {m : Nat} {c : Int × Int} : c ∈ yrow x y m ↔ c.1 = x ∧ y ≤ c.2 ∧ c.2 < y + (m : Int) := by
 unfold yrow
 rw [List.mem_map]
 constructor
 ·rintro ⟨j, hj, rfl⟩
  rw [List.mem_range] at hj
  dsimp only
  exact ⟨rfl, by omega, by omega⟩
 ·rintro ⟨h1, h2, h3⟩
  refine ⟨(c.2 - y).toNat, List.mem_range.2 (by omega), ?_⟩
  apply Prod.ext
  ·exact h1.symm
  ·show y + ((c.2 - y).toNat : Int) = c.2
   omega
theorem mem_spP {x y : Int} {m n : Nat} {c : Int × Int} : c ∈ spP x n y m ↔ (x ≤ c.1 ∧ c.1 < x + (n : Int)) ∧ y ≤ c.2 ∧ c.2 < y + (m : Int) := by
 unfold spP
 rw [List.mem_flatMap]
 constructor
 ·rintro ⟨i, hi, hc⟩
  rw [List.mem_range] at hi
  obtain ⟨h1, h2⟩ := mem_yrow.1 hc
  exact ⟨by omega, h2⟩
 ·rintro ⟨⟨h1, h2⟩, h3⟩
  exact ⟨(c.1 - x).toNat, List.mem_range.2 (by omega), mem_yrow.2 ⟨by omega, h3⟩⟩

def wdN (a b : Int) : Nat := (cdv b - cdv a + 1).toNat
def spL (L H : Int × Int) : List (Int × Int) := spP (cdv L.1) (wdN L.1 H.1) (cdv L.2) (wdN L.2 H.2)
theorem wdN_eq {a b : Int} (h : a ≤ b) : ((wdN a b : Nat) : Int) = cdv b - cdv a + 1 := by
 have := cdv_mono h
 unfold wdN; omega
theorem wdN_le {a b : Int} (ha : -1073741824 ≤ a) (hb : b ≤ 1073741824) : wdN a b ≤ 9 := by unfold wdN cdv; omega
theorem mem_spL {L H c : Int × Int} (h1 : L.1 ≤ H.1) (h2 : L.2 ≤ H.2) : c ∈ spL L H ↔ (cdv L.1 ≤ c.1 ∧ c.1 ≤ cdv H.1) ∧ cdv L.2 ≤ c.2 ∧ c.2 ≤ cdv H.2 := by
 unfold spL
 rw [mem_spP, wdN_eq h1, wdN_eq h2]
 omega
theorem spL_len_le {L H : Int × Int} (hL : Gd L) (hH : Gd H) : (spL L H).length ≤ 81 := by
 unfold spL
 rw [spP_len]
 exact Nat.mul_le_mul (wdN_le hL.1 hH.2.1) (wdN_le hL.2.2.1 hH.2.2.2)
def LexP (a b : Int × Int) : Prop := a.1 < b.1 ∨ (a.1 = b.1 ∧ a.2 < b.2)
theorem yrow_lex (x y : Int) : ∀ m, (yrow x y m).Pairwise LexP
 |0 => List.Pairwise.nil
 |m + 1 => by
  rw [yrow_succ, List.pairwise_append]
  refine ⟨yrow_lex x y m, List.pairwise_singleton _ _, fun a ha b hb => ?_⟩
  obtain ⟨h1, h2, h3⟩ := mem_yrow.1 ha
  rw [List.mem_singleton] at hb
  subst hb
  exact .inr ⟨h1, h3⟩
theorem spP_lex (x y : Int) (m : Nat) : ∀ n, (spP x n y m).Pairwise LexP
 |0 => List.Pairwise.nil
 |n + 1 => by
  rw [spP_succ, List.pairwise_append]
  refine ⟨spP_lex x y m n, yrow_lex _ _ m, fun a ha b hb => ?_⟩
  obtain ⟨⟨h1, h2⟩, -⟩ := mem_spP.1 ha
  obtain ⟨h3, -⟩ := mem_yrow.1 hb
  exact .inl (by omega)
theorem spL_lex (L H : Int × Int) : (spL L H).Pairwise LexP := spP_lex _ _ _ _
theorem LexP.at {l : List (Int × Int)} (h : l.Pairwise LexP) {i j : Nat} (hij : i < j) (hj : j < l.length) : LexP (l[i]'(by omega)) l[j] :=
 List.pairwise_iff_getElem.1 h i j (by omega) hj hij
def awS (z : (Int × Int) × (Int × Int)) (p : Int × Int) : (Int × Int) × (Int × Int) := ((min z.1.1 p.1, min z.1.2 p.2), (max z.2.1 p.1, max z.2.2 p.2))
def awT (r : List (Int × Int)) : Nat → (Int × Int) × (Int × Int)
 |0 => (nx r 0, nx r 0)
 |i + 1 => awS (awT r i) (nx r i)
def awL (r : List (Int × Int)) : (Int × Int) × (Int × Int) := awT r r.length
theorem awT_succ (r : List (Int × Int)) (i : Nat) : awT r (i + 1) = awS (awT r i) (nx r i) := rfl
theorem awT_gd {r : List (Int × Int)} (h : ∀ i, Gd (nx r i)) : ∀ k, Gd (awT r k).1 ∧ Gd (awT r k).2
 |0 => ⟨h 0, h 0⟩
 |k + 1 => by
  obtain ⟨a, b⟩ := awT_gd h k
  have c := h k
  rw [awT_succ]
  unfold Gd at a b c ⊢
  unfold awS
  dsimp only
  omega
theorem awT_le (r : List (Int × Int)) : ∀ k, (awT r k).1.1 ≤ (awT r k).2.1 ∧ (awT r k).1.2 ≤ (awT r k).2.2
 |0 => ⟨Int.le_refl _, Int.le_refl _⟩
 |k + 1 => by
  obtain ⟨a, b⟩ := awT_le r k
  rw [awT_succ]
  unfold awS
  dsimp only
  omega
end Go.Proofs.YtjlnjjmomohpaaaGreat
