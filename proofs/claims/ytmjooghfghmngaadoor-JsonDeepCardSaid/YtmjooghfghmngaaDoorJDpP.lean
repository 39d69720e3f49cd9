/- What JsonDeep makes: brackets within one another, as a value and as a text (plain). -/
import Derived.Test.YtmjooghfghmngaaDoorJBck
namespace Go.Proofs.YtmjooghfghmngaaDoor
open Go.RowKit Go.Shelf Go.Lib

def aT : ByteArray := ⟨#[97]⟩
def deepJ (o : Bool) : Nat → JV
  | 0 => .mk 6 noT [] []
  | n + 1 => bif o then .mk 7 noT [aT] [deepJ o n] else .mk 6 noT [] [deepJ o n]
def opL (o : Bool) : List UInt8 := bif o then [123, 34, 97, 34, 58] else [91]
def clL (o : Bool) : List UInt8 := bif o then [125] else [93]
def repL (l : List UInt8) : Nat → List UInt8
  | 0 => []
  | n + 1 => repL l n ++ l
theorem repL_front (l : List UInt8) : ∀ n, repL l (n + 1) = l ++ repL l n
  | 0 => by simp [repL]
  | n + 1 => by
    show repL l (n + 1) ++ l = l ++ (repL l n ++ l)
    rw [repL_front l n, List.append_assoc]
theorem repL_len (l : List UInt8) : ∀ n, (repL l n).length = n * l.length
  | 0 => by simp [repL]
  | n + 1 => by rw [repL, List.length_append, repL_len l n, Nat.succ_mul]
def deepT (o : Bool) (n : Nat) : List UInt8 := repL (opL o) n ++ ([91, 93] ++ repL (clL o) n)
theorem deepT_succ (o : Bool) (n : Nat) : deepT o (n + 1) = opL o ++ (deepT o n ++ clL o) := by
  unfold deepT
  rw [repL_front, repL]
  simp
theorem quot_a : quotedL aT = [34, 97, 34] := by kernel_rfl
theorem deep_print (o : Bool) : ∀ n d, n < d → printJ d (deepJ o n) = deepT o n
  | 0, 0, h => absurd h (Nat.lt_irrefl _)
  | 0, d + 1, _ => by simp [deepJ, printJ, partsJ, deepT, repL]
  | n + 1, 0, h => absurd h (Nat.not_lt_zero _)
  | n + 1, d + 1, h => by
    have ih := deep_print o n d (by omega)
    rw [deepT_succ]
    cases o with
    | true =>
      rw [deepJ, cond_true, printJ]
      simp only [partsJ, partJ, ih, opL, clL, cond_true, List.getD_cons_zero, quot_a]
      simp
    | false =>
      rw [deepJ, cond_false, printJ]
      simp only [partsJ, partJ, ih, opL, clL, cond_false]
      simp
theorem valid_a : Lib.validD aT.data.toList = true := by kernel_rfl
theorem deep_sound (o : Bool) : ∀ n m, soundJ m (deepJ o n) = decide (n < m)
  | 0, 0 => by simp [deepJ, soundJ, headJ]
  | 0, m + 1 => by rw [deepJ]; simp [soundJ, headJ, noT]
  | n + 1, 0 => by cases o <;> simp [deepJ, soundJ, headJ]
  | n + 1, m + 1 => by
    have ih := deep_sound o n m
    cases o with
    | true => rw [deepJ, cond_true, soundJ]; simp [headJ, noT, ih, valid_a]
    | false => rw [deepJ, cond_false, soundJ]; simp [headJ, noT, ih]
theorem deep_DJ (o : Bool) : ∀ n d, n < d → DJ d (deepJ o n)
  | 0, 0, h => absurd h (Nat.lt_irrefl _)
  | 0, d + 1, _ => fun x hx => by cases hx
  | n + 1, 0, h => absurd h (Nat.not_lt_zero _)
  | n + 1, d + 1, h => by
    have ih := deep_DJ o n d (by omega)
    cases o <;> exact fun x hx => by rw [List.mem_singleton] at hx; rw [hx]; exact ih
theorem deep_TM (o : Bool) : ∀ n d, TM d (deepJ o n)
  | _, 0 => trivial
  | 0, d + 1 => ⟨by decide, fun k hk => (by cases hk), Nat.zero_le _, Nat.zero_le _, fun x hx => by cases hx⟩
  | n + 1, d + 1 => by
    have ih := deep_TM o n d
    cases o with
    | true => exact ⟨by decide, fun k hk => (by rw [List.mem_singleton] at hk; rw [hk]; decide), by simp [maxLen], by simp [maxLen], fun x hx => by rw [List.mem_singleton] at hx; rw [hx]; exact ih⟩
    | false => exact ⟨by decide, fun k hk => (by cases hk), by simp [maxLen], by simp [maxLen], fun x hx => by rw [List.mem_singleton] at hx; rw [hx]; exact ih⟩
theorem deep_SM (o : Bool) (N : Nat) (hN : 1 ≤ N) : ∀ n d, SM N d (deepJ o n)
  | _, 0 => trivial
  | 0, d + 1 => ⟨Nat.zero_le _, Nat.zero_le _, fun x hx => by cases hx⟩
  | n + 1, d + 1 => by
    have ih := deep_SM o N hN n d
    cases o with
    | true => exact ⟨hN, hN, fun x hx => by rw [List.mem_singleton] at hx; rw [hx]; exact ih⟩
    | false => exact ⟨Nat.zero_le _, hN, fun x hx => by rw [List.mem_singleton] at hx; rw [hx]; exact ih⟩
theorem opL_len (o : Bool) : (opL o).length = bif o then 5 else 1 := by cases o <;> rfl
theorem clL_len (o : Bool) : (clL o).length = 1 := by cases o <;> rfl
theorem deepT_len (o : Bool) (n : Nat) : (deepT o n).length ≤ 6 * n + 2 := by
  have h1 := opL_len o
  have h2 := clL_len o
  unfold deepT
  rw [List.length_append, List.length_append, repL_len, repL_len, h2]
  cases o
  · rw [h1]; simp; omega
  · rw [h1]; simp; omega
theorem deep_yes (o : Bool) {n : Nat} (h : n < 32) : parseN (deepT o n) = .ok (deepJ o n) := by
  have h1 := print_back (deep_DJ o n 40 (by omega)) (by rw [deep_sound]; simpa using h) (by rw [deep_print o n 40 (by omega)]; have := deepT_len o n; omega)
  rwa [deep_print o n 40 (by omega)] at h1
/-- Where a text of brackets is at fault. -/
def chkN (o : Bool) (n : Nat) : Bool := match parseN (deepT o n) with
  | .error (a, e) => a == (bif o then 160 else 32) && e == 12
  | .ok _ => false
theorem chk_all : ∀ o : Bool, ∀ n : Fin 70, 32 ≤ n.1 → chkN o n.1 = true := by decide +kernel
theorem deep_no (o : Bool) {n : Nat} (h : 32 ≤ n) (h2 : n < 70) : parseN (deepT o n) = .error ((bif o then 160 else 32), 12) := by
  have := chk_all o ⟨n, h2⟩ h
  unfold chkN at this
  simp only at this
  split at this
  · rename_i a e heq
    rw [heq]
    simp only [Bool.and_eq_true, beq_iff_eq] at this
    rw [this.1, this.2]
  · cases this
end Go.Proofs.YtmjooghfghmngaaDoor
