/- Layer frame's program: Num and PutNum. -/
import Derived.Test.YtdnfijhclikkfaaDoorFMem
namespace Go.Proofs.YtdnfijhclikkfaaDoor
open Go.RowKit Go.Lib

theorem i64_or_nat (a b : Nat) (ha : a < 9223372036854775808) (hb : b < 9223372036854775808) : bits .or .i64 (a : Int) (b : Int) = ((a ||| b : Nat) : Int) := by
  have hx : a ||| b < 2 ^ 63 := Nat.or_lt_two_pow (by omega) (by omega)
  show IntKind.i64.wrap ((BitVec.ofInt 64 (a : Int) ||| BitVec.ofInt 64 (b : Int)).toNat : Int) = _
  rw [BitVec.toNat_or, ofInt_u64 a (by omega), ofInt_u64 b (by omega), IntKind.wrap_i64]
  omega
theorem or_byte (n : Nat) (x : UInt8) : n * 256 ||| x.toNat = n * 256 + x.toNat := by
  have := Nat.two_pow_add_eq_or_of_lt (i := 8) (b := x.toNat) x.toNat_lt n
  rw [Nat.mul_comm n 256]
  exact this.symm
theorem numFrom_snoc (n : Nat) (s : List UInt8) (x : UInt8) : numFrom n (s ++ [x]) = numFrom n s * 256 + x.toNat := by
  unfold numFrom; rw [List.foldl_append, List.foldl_cons, List.foldl_nil]
theorem pow_le {k : Nat} (h : k ≤ 6) : 256 ^ k ≤ 281474976710656 := Nat.le_trans (Nat.pow_le_pow_right (show 0 < 256 by decide) h) (by decide)

set_option maxHeartbeats 1000000 in
theorem num_bad {W : World} {A : Option Addr} {c n : Nat} (p k : Int) (h : k < 1 ∨ 7 < k ∨ p < 0) :
    Calls Tryd.prog 14 #[.slice A n c, .int .i64 p, .int .i64 k] W fun e w' => e = .returned (.tuple #[.int .i64 0, .int .i64 1]) ∧ w' = W := by
  by_cases h1 : k < 1
  · go_enter Tryd.func14, Tryd.ntmps14
    go_wp2_with fail
    refine bodyPost_ret (v := .tuple #[.int .i64 0, .int .i64 1]) ?_ rfl ⟨rfl, rfl⟩
    simp [results, Tryd.results14, go_sem]
  · by_cases h2 : 7 < k
    · go_enter Tryd.func14, Tryd.ntmps14
      go_wp2_with fail
      refine bodyPost_ret (v := .tuple #[.int .i64 0, .int .i64 1]) ?_ rfl ⟨rfl, rfl⟩
      simp [results, Tryd.results14, go_sem]
    · have h3 : p < 0 := by omega
      clear h
      go_enter Tryd.func14, Tryd.ntmps14
      go_wp2_with fail
      refine bodyPost_ret (v := .tuple #[.int .i64 0, .int .i64 1]) ?_ rfl ⟨rfl, rfl⟩
      simp [results, Tryd.results14, go_sem]
set_option maxHeartbeats 1000000 in
theorem num_short {W : World} {A : Option Addr} {c n : Nat} (p k : Int) (h1 : 1 ≤ k) (h2 : k ≤ 7) (h3 : 0 ≤ p) (hp : p ≤ 9223372036854775807) (hs : (n : Int) - p < k) (hm : n ≤ 140737488355328) :
    Calls Tryd.prog 14 #[.slice A n c, .int .i64 p, .int .i64 k] W fun e w' => e = .returned (.tuple #[.int .i64 0, .int .i64 14]) ∧ w' = W := by
  have hw : IntKind.i64.wrap ((n : Int) - p) = (n : Int) - p := IntWalk.i64_in _ (by omega)
  have g1 : ¬ k < 1 := by omega
  have g2 : ¬ 7 < k := by omega
  have g3 : ¬ p < 0 := by omega
  clear hp hm
  go_enter Tryd.func14, Tryd.ntmps14
  go_wp2_with fail
  refine bodyPost_ret (v := .tuple #[.int .i64 0, .int .i64 14]) ?_ rfl ⟨rfl, rfl⟩
  simp [results, Tryd.results14, go_sem]
set_option maxHeartbeats 2000000 in
theorem num_good {W : World} {A : Option Addr} {c : Nat} {s : List UInt8} (p k : Nat) (hB : BytesAt W A s.length s) (hc : s.length ≤ c) (_hcm : c ≤ 9223372036854775807) (h1 : 1 ≤ k) (h2 : k ≤ 7) (hs : p + k ≤ s.length) (hm : s.length ≤ 140737488355328) :
    Calls Tryd.prog 14 #[.slice A s.length c, .int .i64 (p : Nat), .int .i64 (k : Nat)] W fun e w' => e = .returned (.tuple #[.int .i64 (numL ((s.drop p).take k) : Nat), .int .i64 0]) ∧ w' = W := by
  have hr := run_range A s.length c p (p + k) (by omega) (by omega) hc
  rw [show p + k - p = k by omega, show ((p + k : Nat) : Int) = (p : Int) + (k : Int) by omega] at hr
  have hA := adv_bytes (c := c) hB (show p ≤ s.length by omega) hc
  have hT : BytesAt W (advA A c p) ((s.drop p).take k).length ((s.drop p).take k) := fun h0 => by
    have hl : ((s.drop p).take k).length = k := by simp; omega
    obtain ⟨g, o, e, hh⟩ := hA (by omega)
    refine ⟨g, o, e, fun i hi => ?_⟩
    rw [hh i (by omega), List.getD_eq_getElem?_getD, List.getD_eq_getElem?_getD, List.getElem?_take_of_lt (by omega)]
  have hl : ((s.drop p).take k).length = k := by simp; omega
  generalize (s.drop p).take k = t at *
  generalize advA A c p = B at *
  subst hl
  have hg1 : ¬ (t.length : Int) < 1 := by omega
  have hg2 : ¬ (7 : Int) < (t.length : Int) := by omega
  have hg3 : ¬ (p : Int) < 0 := by omega
  have hw1 : IntKind.i64.wrap ((s.length : Int) - (p : Int)) = (s.length : Int) - (p : Int) := IntWalk.i64_in _ (by omega)
  have hw2 : IntKind.i64.wrap ((p : Int) + (t.length : Int)) = (p : Int) + (t.length : Int) := IntWalk.i64_in _ (by omega)
  have hg4 : ¬ (s.length : Int) - (p : Int) < (t.length : Int) := by omega
  have HT := Lib.hid hT
  clear hA hB hT
  go_enter Tryd.func14, Tryd.ntmps14
  go_wp2_with fail
  go_loopw [8, 34] (fun v i wr => ∃ (j S : Nat), v = .int .i64 (S : Nat) ∧ i = .int .i64 j ∧ j ≤ t.length ∧ wr = W ∧ Hid (S = numFrom 0 (t.take j))) (fun _ i _ => t.length - (RowKit.intOf i).toNat)
  case atStart => exact ⟨0, 0, rfl, rfl, by omega, rfl, rfl⟩
  case round =>
    obtain ⟨j, S, rfl, rfl, hj, hw, HS⟩ := hrel
    have hw := hw.symm
    subst hw
    by_cases hlt : j < t.length
    · have hl1 : (j : Int) < (t.length : Int) := by omega
      have hl0 : (0 : Int) ≤ (j : Int) := by omega
      obtain ⟨g, o, rfl, hcj⟩ := byte_at HT.out hlt
      have HN := Lib.hid (take_next hlt)
      generalize t[j] = x at *
      have hS : S < 281474976710656 := by
        rw [HS.out]
        have := numL_lt (t.take j)
        have hjl : (t.take j).length = j := by simp; omega
        rw [hjl] at this
        exact Nat.lt_of_lt_of_le this (pow_le (by omega))
      have hx := x.toNat_lt
      have hor := i64_or_nat (S * 256) x.toNat (by omega) (by omega)
      rw [or_byte, show ((S * 256 : Nat) : Int) = (S : Int) * 256 by omega] at hor
      have hwx : IntKind.i64.wrap ((S : Int) * 256) = (S : Int) * 256 := IntWalk.i64_in _ (by omega)
      have hwy : IntKind.i64.wrap ((x.toNat : Nat) : Int) = ((x.toNat : Nat) : Int) := IntWalk.i64_in _ (by omega)
      clear hr
      go_wp2_with fail
      refine ⟨⟨j + 1, S * 256 + x.toNat, by simp, by go_num, by omega, by first | rfl | trivial, ?_⟩, by simp [RowKit.intOf]; omega⟩
      show _ = _
      rw [HN.out, numFrom_snoc, ← HS.out]
    · have hl1 : ¬ (j : Int) < (t.length : Int) := by omega
      have hv : Hid (numL t = S) := by
        show _ = _
        rw [HS.out, List.take_of_length_le (by omega)]; rfl
      go_wp2_with fail
      refine bodyPost_ret (v := .tuple #[.int .i64 (S : Nat), .int .i64 0]) ?_ rfl ⟨by rw [hv.out], rfl⟩
      simp [results, Tryd.results14, go_sem]
theorem nmV_le (s : List UInt8) (p k : Int) : nmV s p k ≤ 72057594037927935 := by
  unfold nmV
  split
  · rename_i h
    unfold nmE at h
    split at h
    · exact absurd h (by decide)
    · have := numL_lt ((s.drop p.toNat).take k.toNat)
      have h7 : ((s.drop p.toNat).take k.toNat).length ≤ 7 := by rw [List.length_take]; omega
      have h2 := Nat.pow_le_pow_right (show 0 < 256 by decide) h7
      have h3 : (256 : Nat) ^ 7 = 72057594037927936 := by decide
      omega
  · omega
/-- Num. -/
theorem Num_any {W : World} {A : Option Addr} {c : Nat} {s : List UInt8} (p k : Int) (hB : BytesAt W A s.length s) (hc : s.length ≤ c) (hcm : c ≤ 9223372036854775807) (hm : s.length ≤ 140737488355328) (hp : p ≤ 9223372036854775807) :
    Calls Tryd.prog 14 #[.slice A s.length c, .int .i64 p, .int .i64 k] W fun e w' => e = .returned (.tuple #[.int .i64 (nmV s p k : Nat), .int .i64 (nmE s p k)]) ∧ w' = W := by
  by_cases h1 : k < 1 ∨ 7 < k ∨ p < 0
  · have he : nmE s p k = 1 := by unfold nmE; rw [if_pos h1]; rfl
    have hv : nmV s p k = 0 := by unfold nmV; rw [if_neg (by rw [he]; decide)]
    rw [he, hv]
    exact num_bad p k h1
  · by_cases h2 : (s.length : Int) - p < k
    · have he : nmE s p k = 14 := by unfold nmE; rw [if_neg h1, if_pos h2]; rfl
      have hv : nmV s p k = 0 := by unfold nmV; rw [if_neg (by rw [he]; decide)]
      rw [he, hv]
      exact num_short p k (by omega) (by omega) (by omega) hp h2 hm
    · have he : nmE s p k = 0 := by unfold nmE; rw [if_neg h1, if_neg h2]
      have hv : nmV s p k = numL ((s.drop p.toNat).take k.toNat) := by unfold nmV; rw [if_pos he]
      rw [he, hv]
      have := num_good (A := A) (c := c) p.toNat k.toNat hB hc hcm (by omega) (by omega) (by omega) hm
      rwa [show ((p.toNat : Nat) : Int) = p by omega, show ((k.toNat : Nat) : Int) = k by omega] at this
end Go.Proofs.YtdnfijhclikkfaaDoor
