/- The words in which layer ring's calls are said: what Area, Check, Side answer of any ring. -/
import Derived.Test.YtbcmnhbpomjinaaRefNorm
import Derived.Test.YtbcmnhbpomjinaaRefSide
import Derived.Test.YtbcmnhbpomjinaaPlane
namespace Go.Proofs.Ytbcmnhbpomjinaa
open Go.RowKit

/-- What Area answers. -/
def arH (ps : List (Int × Int)) : Int := if arE ps = 0 then hiOf (area ps) else 0
def arL (ps : List (Int × Int)) : Int := if arE ps = 0 then loOf (area ps) else 0
theorem ref_area (ps : List (Int × Int)) (A : Option Addr) (cap : Nat) (hn : ps.length ≤ maxLen) (w : World) (hr : Pts w w.heap.size A ps) :
    Calls Try.prog 22 #[.slice A ps.length cap] w fun e w' => e = .returned (.tuple #[.agg #[.int .i64 (arH ps), .int .u64 (arL ps)], .int .i64 (arE ps)]) ∧ Below w.heap.size w w' := by
  unfold arH arL
  by_cases he : arE ps = 0
  · rw [if_pos he, if_pos he, he]; exact ref_area_good ps A cap he w hr
  · rw [if_neg he, if_neg he]; exact ref_area_bad ps A cap hn he w hr
theorem ref_check (ps : List (Int × Int)) (A : Option Addr) (cap : Nat) (hn : ps.length ≤ maxLen) (w : World) (hr : Pts w w.heap.size A ps) :
    Calls Try.prog 11 #[.slice A ps.length cap] w fun e w' => e = .returned (.int .i64 (chE ps)) ∧ Below w.heap.size w w' := by
  by_cases he : arE ps = 0
  · exact ref_check_good ps A cap he w hr
  · rw [chE_bad he]; exact ref_check_bad ps A cap hn he w hr
/-- What Side answers, and its error's number. -/
noncomputable def sdE (ps : List (Int × Int)) (p : Int × Int) : Int := if chE ps ≠ 0 then chE ps else if gd p then 0 else 3
noncomputable def sdV (ps : List (Int × Int)) (p : Int × Int) : Int := if sdE ps p = 0 then sideW ps p else 0
theorem chE_zero {ps : List (Int × Int)} : chE ps = 0 ↔ arE ps = 0 ∧ Sound ps := by
  constructor
  · intro h
    by_cases he : arE ps = 0
    · by_cases hs : Sound ps
      · exact ⟨he, hs⟩
      · rw [chE_unsound he hs] at h; omega
    · rw [chE_bad he] at h; exact absurd h he
  · rintro ⟨h1, h2⟩; exact chE_sound h1 h2
theorem arE_zero {ps : List (Int × Int)} : arE ps = 0 ↔ ps.length ≤ 128 ∧ gdL ps = true := by
  unfold arE
  by_cases h : 128 < ps.length
  · rw [if_pos h]; constructor
    · intro e; omega
    · rintro ⟨e, -⟩; omega
  · rw [if_neg h]
    cases gdL ps
    · simp
    · simp; omega

/-- The given ring, and the given point. -/
def gvR : List (Int × Int) := [(0, 0), (4, 0), (4, 4), (0, 4)]
theorem gv_ar : arE gvR = 0 := by decide +kernel
theorem gv_area : area gvR = 32 := by decide +kernel
theorem gv_sound : Sound gvR := by
  rw [sound_iff]
  refine ⟨by decide, by rw [gv_area]; omega, fun i j hij hj => ?_⟩
  refine (apart_test (by decide) hij hj).2 ?_
  have hj' : j < 4 := hj
  have hk : ∀ i, i < 4 → ∀ j, j < 4 → i < j → nx gvR i ≠ nx gvR j ∧ meetN (nx gvR i) (nx gvR (i + 1)) (nx gvR j) (nx gvR (j + 1)) = if nxB gvR.length i j then 1 else 0 := by decide +kernel
  exact hk i (by omega) j hj' hij
theorem gv_side : side gvR (2, 2) = 1 := by
  have hk : ∀ i, i < 4 → onB (nx gvR i) (nx gvR (i + 1)) (2, 2) = false := by decide +kernel
  rw [side_off (fun i hi h => by have h1 := hk i hi; rw [onB_iff.2 h] at h1; cases h1)]
  rw [if_pos]
  decide +kernel
theorem gv_sideW : sideW gvR (2, 2) = 1 := by
  unfold sideW
  rw [if_neg (fun h => by rw [← side_zero, gv_side] at h; omega), if_pos (by decide +kernel)]
theorem gv_ch : chE gvR = 0 := chE_sound gv_ar gv_sound
theorem gv_sdE : sdE gvR (2, 2) = 0 := by unfold sdE; rw [gv_ch, if_neg (by decide), if_pos (by decide)]
theorem gv_sdV : sdV gvR (2, 2) = 1 := by unfold sdV; rw [gv_sdE, if_pos rfl, gv_sideW]
/-- What Norm answers. -/
noncomputable def nmL (ps : List (Int × Int)) : List (Int × Int) := if chE ps = 0 then rotL ps (leastI ps ps.length) else []
end Go.Proofs.Ytbcmnhbpomjinaa
