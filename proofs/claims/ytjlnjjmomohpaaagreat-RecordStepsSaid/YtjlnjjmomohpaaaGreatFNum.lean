/- The sum of bytes by bits: plain numbers. -/
namespace Go.Proofs.YtjlnjjmomohpaaaGreat

end Go.Proofs.YtjlnjjmomohpaaaGreat

namespace Go.Proofs.YtjlnjjmomohpaaaGreat

def putL (n : Nat) : Nat → List UInt8
 |0 => []
 |k + 1 => UInt8.ofNat (n / 256 ^ k) :: putL n k
theorem putL_len (n : Nat) : ∀ k, (putL n k).length = k
 |0 => rfl
 |k + 1 => by show (putL n k).length + 1 = _; rw [putL_len n k]
def numFrom (n : Nat) (s : List UInt8) : Nat := s.foldl (fun n c => n * 256 + c.toNat) n
def numL (s : List UInt8) : Nat := numFrom 0 s
theorem numFrom_cons (n : Nat) (c : UInt8) (s : List UInt8) : numFrom n (c :: s) = numFrom (n * 256 + c.toNat) s := rfl
theorem numFrom_lt : ∀ (s : List UInt8) (n : Nat), numFrom n s < (n + 1) * 256 ^ s.length
 |[], n => by show n < _; simp
 |c :: s, n => by
  rw [numFrom_cons]
  refine Nat.lt_of_lt_of_le (numFrom_lt s _) ?_
  rw [List.length_cons, Nat.pow_succ, Nat.mul_comm (256 ^ s.length), ← Nat.mul_assoc]
  refine Nat.mul_le_mul_right _ ?_
  have := c.toNat_lt
  omega
theorem numL_lt (s : List UInt8) : numL s < 256 ^ s.length := by have := numFrom_lt s 0; rwa [Nat.zero_add, Nat.one_mul] at this
theorem numFrom_put (n : Nat) : ∀ (k m : Nat), numFrom m (putL n k) = m * 256 ^ k + n % 256 ^ k
 |0, m => by show m = _; simp [Nat.mod_one]
 |k + 1, m => by
  show numFrom (m * 256 + _) (putL n k) = _
  rw [numFrom_put n k, UInt8.toNat_ofNat', show (256 : Nat) ^ (k + 1) = 256 ^ k * 256 from Nat.pow_succ ..]
  have h1 : n % (256 ^ k * 256) = n % 256 ^ k + 256 ^ k * (n / 256 ^ k % 256) := Nat.mod_mul
  rw [h1, show (2 : Nat) ^ 8 = 256 from rfl, Nat.add_mul, Nat.mul_assoc, Nat.mul_comm 256 (256 ^ k), Nat.mul_comm (n / 256 ^ k % 256)]
  omega
theorem numL_put (n k : Nat) : numL (putL n k) = n % 256 ^ k := by unfold numL; rw [numFrom_put]; simp
theorem put_num {n k : Nat} (h : n < 256 ^ k) : numL (putL n k) = n := by rw [numL_put, Nat.mod_eq_of_lt h]

def putB (b : List UInt8) (n size : Int) : List UInt8 := if 0 ≤ n ∧ 1 ≤ size ∧ size ≤ 8 ∧ n.toNat / 256 ^ size.toNat = 0 then b ++ putL n.toNat size.toNat else b
theorem putB_nat (b : List UInt8) (n k : Nat) (h1 : 1 ≤ k) (h8 : k ≤ 8) (h : n < 256 ^ k) : putB b n k = b ++ putL n k := by
 unfold putB
 rw [if_pos ⟨by omega, by omega, by omega, by simpa using Nat.div_eq_of_lt h⟩]
 simp
def EARG : Int := 1
def ESHORT : Int := 14
def nmE (s : List UInt8) (p size : Int) : Int := if size < 1 ∨ 7 < size ∨ p < 0 then EARG else if (s.length : Int) - p < size then ESHORT else 0
def nmV (s : List UInt8) (p size : Int) : Nat := if nmE s p size = 0 then numL ((s.drop p.toNat).take size.toNat) else 0

end Go.Proofs.YtjlnjjmomohpaaaGreat
