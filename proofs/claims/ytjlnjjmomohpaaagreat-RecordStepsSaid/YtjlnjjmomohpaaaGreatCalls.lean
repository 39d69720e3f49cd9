/- The contracts of the program's calls on 128-bit integers: Of, Mul, Compare, Sign, Total, Add, Sub. -/
import Derived.Test.YtjlnjjmomohpaaaGreatWords
import Derived.Test.YtjlnjjmomohpaaaGreatShelf
import Derived.Laws.StructEq
namespace Go.Proofs.YtjlnjjmomohpaaaGreat
open Go.RowKit

set_option maxHeartbeats 400000 in
theorem below_any (h l h' l' : Int) (w : World) :
  Calls Tryz.prog 190 #[.agg #[.int .i64 h, .int .u64 l], .agg #[.int .i64 h', .int .u64 l']] w fun e w' => e = .returned (.bool (blw h l h' l')) ∧ Below w.heap.size w w' := by
 by_cases hh : h = h'
 ·have e1 : (h != h') = false := by simp [hh]
  have HF : Hid (blw h l h' l' = decide (l < l')) := by unfold Hid blw; rw [if_pos hh]
  clear hh
  go_enter Tryz.func190, Tryz.ntmps190
  go_wp2
  go_ret
  rw [HF.out]
  exact ⟨rfl, by go_grown⟩
 ·have e1 : (h != h') = true := by simp [hh]
  have HF : Hid (blw h l h' l' = decide (h < h')) := by unfold Hid blw; rw [if_neg hh]
  clear hh
  go_enter Tryz.func190, Tryz.ntmps190
  go_wp2
  go_ret
  rw [HF.out]
  exact ⟨rfl, by go_grown⟩

theorem mul64_any (x y : Int) (hx0 : 0 ≤ x) (hx : x < 18446744073709551616) (hy0 : 0 ≤ y) (hy : y < 18446744073709551616) (w : World) :
  Calls Tryz.prog 197 #[.int .u64 x, .int .u64 y] w fun e w' => e = .returned (.tuple #[.int .u64 (mulHi x y), .int .u64 (mulLo x y)]) ∧ w = w' := by
 obtain ⟨a, rfl⟩ := Int.eq_ofNat_of_zero_le hx0
 obtain ⟨b, rfl⟩ := Int.eq_ofNat_of_zero_le hy0
 refine (Tryz.bits_Mul64 a b (by omega) (by omega) w).mono fun e w' ⟨he, hw⟩ => ⟨?_, hw.symm⟩
 rw [he]
 unfold mulHi mulLo
 simp

theorem uw_nonneg (n : Int) : 0 ≤ uw n := by unfold uw; omega
theorem uw_lt (n : Int) : uw n < 18446744073709551616 := by unfold uw; omega

set_option maxHeartbeats 400000 in
theorem mul_any (a b : Int) (w : World) (ha1 : -9223372036854775808 ≤ a) (ha2 : a ≤ 9223372036854775807) (hb1 : -9223372036854775808 ≤ b) (hb2 : b ≤ 9223372036854775807) :
  Calls Tryz.prog 193 #[.int .i64 a, .int .i64 b] w fun e w' => e = .returned (.agg #[.int .i64 (hiOf (a * b)), .int .u64 (loOf (a * b))]) ∧ Below w.heap.size w w' := by
 have hf : (if a < 0 then (if b < 0 then sw (uw (uw (mulHi (uw a) (uw b) - uw b) - uw a)) else sw (uw (mulHi (uw a) (uw b) - uw b))) else (if b < 0 then sw (uw (mulHi (uw a) (uw b) - uw a)) else sw (mulHi (uw a) (uw b)))) = hiOf (a * b) ∧ mulLo (uw a) (uw b) = loOf (a * b) := by
  by_cases ha : a < 0 <;> by_cases hb : b < 0 <;> simp only [ha, hb, if_true, if_false]
  ·exact mul_nn a b ha ha1 hb hb1
  ·exact mul_np a b ha ha1 (by omega) hb2
  ·exact mul_pn a b (by omega) ha2 hb hb1
  ·exact mul_pp a b (by omega) ha2 (by omega) hb2
 have HF := Lib.hid hf
 clear hf ha1 ha2 hb1 hb2
 by_cases ha : a < 0 <;> by_cases hb : b < 0
 all_goals
  have hf := HF.out
  simp only [ha, hb, if_true, if_false] at hf
  have HG := Lib.hid hf
  clear hf HF
  go_enter Tryz.func193, Tryz.ntmps193
  go_wp2_with (go_at_call 197; rw [wrap_uw, wrap_uw]; refine (mul64_any _ _ (uw_nonneg _) (uw_lt _) (uw_nonneg _) (uw_lt _) _).mono ?_; rintro e w' ⟨rfl, rfl⟩)
  refine bodyPost_ret (v := .agg #[.int .i64 (hiOf (a * b)), .int .u64 (loOf (a * b))]) ?_ rfl ⟨rfl, by go_grown⟩
  rw [← HG.out.1, ← HG.out.2]
  simp [results, Tryz.results193, go_sem, wrap_uw, wrap_sw]

set_option maxHeartbeats 400000 in
theorem compare_any (h l h' l' : Int) (w : World) :
  Calls Tryz.prog 170 #[.agg #[.int .i64 h, .int .u64 l], .agg #[.int .i64 h', .int .u64 l']] w fun e w' => e = .returned (.int .i64 (cmp h l h' l')) ∧ Below w.heap.size w w' := by
 have HF := Lib.hid (cmp_of h l h' l')
 by_cases h1 : h = h'
 ·by_cases h2 : l = l'
  ·have HG : Hid (cmp h l h' l' = 0) := by unfold Hid; rw [HF.out, if_pos ⟨h1, h2⟩]
   subst h1 h2
   clear HF
   go_enter Tryz.func170, Tryz.ntmps170
   go_wp2
   go_ret
   rw [HG.out]
   exact ⟨rfl, by go_grown⟩
  ·have HG : Hid (cmp h l h' l' = if blw h l h' l' = true then -1 else 1) := by unfold Hid; rw [HF.out, if_neg (fun e => h2 e.2)]
   clear HF
   subst h1
   cases hb : blw h l h l'
   all_goals
    go_enter Tryz.func170, Tryz.ntmps170
    go_wp2_with (go_at_call 190; refine (below_any _ _ _ _ _).mono ?_; rintro e w' ⟨rfl, hB⟩)
    go_ret
    rw [HG.out, hb]
    exact ⟨rfl, Below.trans (by go_grown) (hB.mono (by simp; omega))⟩
 ·have HG : Hid (cmp h l h' l' = if blw h l h' l' = true then -1 else 1) := by unfold Hid; rw [HF.out, if_neg (fun e => h1 e.1)]
  clear HF
  cases hb : blw h l h' l'
  all_goals
   go_enter Tryz.func170, Tryz.ntmps170
   go_wp2_with (go_at_call 190; refine (below_any _ _ _ _ _).mono ?_; rintro e w' ⟨rfl, hB⟩)
   go_ret
   rw [HG.out, hb]
   exact ⟨rfl, Below.trans (by go_grown) (hB.mono (by simp; omega))⟩

set_option maxHeartbeats 400000 in
theorem sign_any (h l : Int) (w : World) :
  Calls Tryz.prog 137 #[.agg #[.int .i64 h, .int .u64 l]] w fun e w' => e = .returned (.int .i64 (cmp h l 0 0)) ∧ Below w.heap.size w w' := by
 go_enter Tryz.func137, Tryz.ntmps137
 go_wp2_with (go_at_call 170; refine (compare_any _ _ _ _ _).mono ?_; rintro e w' ⟨rfl, hB⟩)
 go_ret
 exact ⟨rfl, Below.trans (by go_grown) (hB.mono (by simp))⟩
end Go.Proofs.YtjlnjjmomohpaaaGreat
