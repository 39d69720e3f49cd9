/- The words in which layer ring's calls are said: what Area, Check, Side answer of any ring. -/
import Derived.Test.YtjlnjjmomohpaaaGreatRefPar
import Derived.Test.YtjlnjjmomohpaaaGreatRefSide
import Derived.Test.YtjlnjjmomohpaaaGreatPlane
namespace Go.Proofs.YtjlnjjmomohpaaaGreat
open Go.RowKit

def arH (ps : List (Int × Int)) : Int := if arE ps = 0 then hiOf (area ps) else 0
def arL (ps : List (Int × Int)) : Int := if arE ps = 0 then loOf (area ps) else 0
theorem ref_area (ps : List (Int × Int)) (A : Option Addr) (cap : Nat) (hn : ps.length ≤ maxLen) (w : World) (hr : Pts w w.heap.size A ps) :
  Calls Tryz.prog 33 #[.slice A ps.length cap] w fun e w' => e = .returned (.tuple #[.agg #[.int .i64 (arH ps), .int .u64 (arL ps)], .int .i64 (arE ps)]) ∧ Below w.heap.size w w' := by
 unfold arH arL
 by_cases he : arE ps = 0
 ·rw [if_pos he, if_pos he, he]; exact ref_area_good ps A cap he w hr
 ·rw [if_neg he, if_neg he]; exact ref_area_bad ps A cap hn he w hr
theorem ref_check (ps : List (Int × Int)) (A : Option Addr) (cap : Nat) (hn : ps.length ≤ maxLen) (w : World) (hr : Pts w w.heap.size A ps) :
  Calls Tryz.prog 72 #[.slice A ps.length cap] w fun e w' => e = .returned (.int .i64 (chE ps)) ∧ Below w.heap.size w w' := by
 by_cases he : arE ps = 0
 ·exact ref_check_good ps A cap he w hr
 ·rw [chE_bad he]; exact ref_check_bad ps A cap hn he w hr
theorem chE_zero {ps : List (Int × Int)} : chE ps = 0 ↔ arE ps = 0 ∧ Sound ps := by
 constructor
 ·intro h
  by_cases he : arE ps = 0
  ·by_cases hs : Sound ps
   ·exact ⟨he, hs⟩
   ·rw [chE_unsound he hs] at h; omega
  ·rw [chE_bad he] at h; exact absurd h he
 ·rintro ⟨h1, h2⟩; exact chE_sound h1 h2
theorem arE_zero {ps : List (Int × Int)} : arE ps = 0 ↔ ps.length ≤ 128 ∧ gdL ps = true := by
 unfold arE
 by_cases h : 128 < ps.length
 ·rw [if_pos h]; constructor
  ·intro e; omega
  ·rintro ⟨e, -⟩; omega
 ·rw [if_neg h]
  cases gdL ps
  ·simp
  ·simp; omega

def gvR : List (Int × Int) := [(0, 0), (4, 0), (4, 4), (0, 4)]
theorem gv_ar : arE gvR = 0 := by decide +kernel
theorem gv_area : area gvR = 32 := by decide +kernel
theorem gv_sound : Sound gvR := by
 rw [sound_iff]
 refine ⟨by decide, by rw [gv_area]; omega, fun i j hij hj => ?_⟩
 refine (apart_test (by decide) hij hj).2 ?_
 have hj' : j < 4 := hj
 have hk : ∀ i, i < 4 → ∀ j, j < 4 → i < j → nx gvR i ≠ nx gvR j ∧ meetN (nx gvR i) (nx gvR (i + 1)) (nx gvR j) (nx gvR (j + 1)) = if nxB gvR.length i j then 1 else 0 := by decide +kernel
 exact hk i (by omega) j hj' hij
noncomputable def nmL (ps : List (Int × Int)) : List (Int × Int) := if chE ps = 0 then rotL ps (leastI ps ps.length) else []
end Go.Proofs.YtjlnjjmomohpaaaGreat

namespace Go.Proofs.YtjlnjjmomohpaaaGreat

theorem nx_dt {ps : List (Int × Int)} {k : Nat} (hk : k < ps.length) (i : Nat) : nx (ps.drop k ++ ps.take k) i = nx ps (i + k) := by
 have hl : (ps.drop k ++ ps.take k).length = ps.length := by rw [List.length_append, List.length_drop, List.length_take]; omega
 have hn : 0 < ps.length := by omega
 have hj := Nat.mod_lt i hn
 have e : (i + k) % ps.length = (i % ps.length + k) % ps.length := by rw [Nat.mod_add_mod]
 rw [← nx_mod ps (i + k), e]
 rw [← nx_mod (ps.drop k ++ ps.take k) i, hl]
 generalize i % ps.length = j at *
 rw [nx_lt (by rw [hl]; exact hj)]
 by_cases h : j + k < ps.length
 ·rw [Nat.mod_eq_of_lt h, nx_lt h, List.getElem_append_left (by rw [List.length_drop]; omega), List.getElem_drop]
  congr 1; omega
 ·have e2 : (j + k) % ps.length = j + k - ps.length := by
   rw [Nat.mod_eq_sub_mod (by omega), Nat.mod_eq_of_lt (by omega)]
  rw [e2, nx_lt (by omega), List.getElem_append_right (by rw [List.length_drop]; omega), List.getElem_take]
  congr 1
  rw [List.length_drop]; omega
theorem gdL_iff {ps : List (Int × Int)} : gdL ps = true ↔ ∀ p ∈ ps, Gd p := by
 unfold gdL
 simp only [List.all_eq_true, gd_iff]
theorem gdL_same {ps qs : List (Int × Int)} (h : ∀ p, p ∈ ps ↔ p ∈ qs) : gdL ps = gdL qs := by
 rw [Bool.eq_iff_iff, gdL_iff, gdL_iff]
 exact ⟨fun H p hp => H p ((h p).2 hp), fun H p hp => H p ((h p).1 hp)⟩
end Go.Proofs.YtjlnjjmomohpaaaGreat
