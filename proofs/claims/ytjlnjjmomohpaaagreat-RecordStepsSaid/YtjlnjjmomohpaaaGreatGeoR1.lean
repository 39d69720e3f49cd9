/- The contracts of the document's own answers on points: Good, Turn, between, On. -/
import Derived.Test.YtjlnjjmomohpaaaGreatGeo3
namespace Go.Proofs.YtjlnjjmomohpaaaGreat
open Go.RowKit

def bwn (a b n : Int) : Bool := (decide (a ≤ n) && decide (n ≤ b)) || (decide (b ≤ n) && decide (n ≤ a))
theorem bwn_iff {a b n : Int} : bwn a b n = true ↔ btw a b n := by
 unfold bwn btw
 simp only [Bool.or_eq_true, Bool.and_eq_true, decide_eq_true_eq]
set_option maxHeartbeats 400000 in
theorem ref_between (a b n : Int) (w : World) :
  Calls Tryz.prog 119 #[.int .i64 a, .int .i64 b, .int .i64 n] w fun e w' => e = .returned (.bool (bwn a b n)) ∧ w = w' := by
 have HG := Lib.hid (show bwn a b n = ((decide (a ≤ n) && decide (n ≤ b)) || (decide (b ≤ n) && decide (n ≤ a))) from rfl)
 by_cases h1 : a ≤ n <;> by_cases h2 : n ≤ b <;> by_cases h3 : b ≤ n <;> by_cases h4 : n ≤ a
 all_goals
  have HH := HG.out
  simp only [h1, h2, h3, h4, decide_true, decide_false, Bool.and_true, Bool.and_false, Bool.or_true, Bool.or_false, Bool.and_self, Bool.or_self] at HH
  have HK := Lib.hid HH
  clear HH HG
  go_enter Tryz.func119, Tryz.ntmps119
  go_wp2
  go_ret
  rw [HK.out]
  exact ⟨rfl, rfl⟩

set_option maxHeartbeats 800000 in
theorem ref_turn (a b c : Int × Int) (ha : Gd a) (hb : Gd b) (hc : Gd c) (w : World) :
  Calls Tryz.prog 81 #[.agg #[.int .i64 a.1, .int .i64 a.2], .agg #[.int .i64 b.1, .int .i64 b.2], .agg #[.int .i64 c.1, .int .i64 c.2]] w fun e w' => e = .returned (.int .i64 (sgn (crs a b c))) ∧ Below w.heap.size w w' := by
 have h1 := crs_lim ha hb hc
 have h2 := crs_mul ha hb hc
 have h3 := crs_mul' ha hb hc
 unfold Gd at ha hb hc
 have q1 := wrap_in (n := b.1 - a.1) (by omega) (by omega)
 have q2 := wrap_in (n := c.2 - a.2) (by omega) (by omega)
 have q3 := wrap_in (n := b.2 - a.2) (by omega) (by omega)
 have q4 := wrap_in (n := c.1 - a.1) (by omega) (by omega)
 have q5 := wrap_in (n := (b.1 - a.1) * (c.2 - a.2)) (by omega) (by omega)
 have q6 := wrap_in (n := (b.2 - a.2) * (c.1 - a.1)) (by omega) (by omega)
 have q7 : IntKind.i64.wrap ((b.1 - a.1) * (c.2 - a.2) - (b.2 - a.2) * (c.1 - a.1)) = crs a b c := wrap_in (n := crs a b c) (by omega) (by omega)
 clear h1 h2 h3 ha hb hc
 generalize crs a b c = x at *
 rcases Int.lt_trichotomy x 0 with h | h | h
 ·have HG : Hid (sgn x = -1) := by unfold Hid sgn; rw [if_pos h]
  go_enter Tryz.func81, Tryz.ntmps81
  go_wp2
  go_ret
  rw [HG.out]
  exact ⟨rfl, by go_grown⟩
 ·subst h
  have HG : Hid (sgn 0 = 0) := rfl
  go_enter Tryz.func81, Tryz.ntmps81
  go_wp2
  go_ret
  rw [HG.out]
  exact ⟨rfl, by go_grown⟩
 ·have HG : Hid (sgn x = 1) := by unfold Hid sgn; rw [if_neg (by omega), if_neg (by omega)]
  go_enter Tryz.func81, Tryz.ntmps81
  go_wp2
  go_ret
  rw [HG.out]
  exact ⟨rfl, by go_grown⟩

theorem onB_of (a b p : Int × Int) : onB a b p = ((sgn (crs a b p) == 0) && bwn a.1 b.1 p.1 && bwn a.2 b.2 p.2) := by
 rw [Bool.eq_iff_iff, onB_iff, Bool.and_eq_true, Bool.and_eq_true, bwn_iff, bwn_iff, beq_iff_eq, sgn_zero, and_assoc]
 rfl
set_option maxHeartbeats 800000 in
theorem ref_on (a b p : Int × Int) (ha : Gd a) (hb : Gd b) (hp : Gd p) (w : World) :
  Calls Tryz.prog 80 #[.agg #[.int .i64 a.1, .int .i64 a.2], .agg #[.int .i64 b.1, .int .i64 b.2], .agg #[.int .i64 p.1, .int .i64 p.2]] w fun e w' => e = .returned (.bool (onB a b p)) ∧ Below w.heap.size w w' := by
 have hx := fun W => ref_turn a b p ha hb hp W
 have HX := Lib.hid hx
 have HO := Lib.hid (onB_of a b p)
 clear hx ha hb hp
 cases h1 : (sgn (crs a b p) == 0)
 ·have HG : Hid (onB a b p = false) := by unfold Hid; rw [HO.out, h1]; rfl
  go_enter Tryz.func80, Tryz.ntmps80
  go_wp2_with fail
  go_at_call 81
  refine (HX.out _).mono ?_
  rintro e w1 ⟨rfl, hB⟩
  go_wp2
  go_ret
  rw [HG.out]
  exact ⟨rfl, Below.trans (by go_grown) (hB.mono (by simp only [World.size_alloc]; omega))⟩
 ·cases h2 : bwn a.1 b.1 p.1
  ·have HG : Hid (onB a b p = false) := by unfold Hid; rw [HO.out, h2, Bool.and_false]; rfl
   go_enter Tryz.func80, Tryz.ntmps80
   go_wp2_with fail
   go_at_call 81
   refine (HX.out _).mono ?_
   rintro e w1 ⟨rfl, hB⟩
   obtain ⟨f1, f2, f3, f4, f5, f6⟩ := ((Hold.three0 w a b p).on hB).rd3
   go_wp2_with fail
   go_at_call 119
   refine (ref_between _ _ _ _).mono ?_
   rintro e w2 ⟨rfl, rfl⟩
   go_wp2
   go_ret
   rw [HG.out]
   exact ⟨rfl, Below.trans (by go_grown) (hB.mono (by simp only [World.size_alloc]; omega))⟩
  ·have HG : Hid (onB a b p = bwn a.2 b.2 p.2) := by unfold Hid; rw [HO.out, h1, h2]; rfl
   go_enter Tryz.func80, Tryz.ntmps80
   go_wp2_with fail
   go_at_call 81
   refine (HX.out _).mono ?_
   rintro e w1 ⟨rfl, hB⟩
   obtain ⟨f1, f2, f3, f4, f5, f6⟩ := ((Hold.three0 w a b p).on hB).rd3
   go_wp2_with fail
   go_at_call 119
   refine (ref_between _ _ _ _).mono ?_
   rintro e w2 ⟨rfl, rfl⟩
   go_wp2_with fail
   go_at_call 119
   refine (ref_between _ _ _ _).mono ?_
   rintro e w2 ⟨rfl, rfl⟩
   go_wp2
   go_ret
   rw [HG.out]
   exact ⟨rfl, Below.trans (by go_grown) (hB.mono (by simp only [World.size_alloc]; omega))⟩

set_option maxHeartbeats 800000 in
theorem ref_good (ps : List (Int × Int)) (A : Option Addr) (cap : Nat) (w : World) (hn : ps.length ≤ maxLen) (hr : Pts w w.heap.size A ps) :
  Calls Tryz.prog 74 #[.slice A ps.length cap] w fun e w' => e = .returned (.bool (gdL ps)) ∧ Below w.heap.size w w' := by
 unfold maxLen at hn
 go_enter Tryz.func74, Tryz.ntmps74
 go_wp2
 go_loopw [3] (fun i wr => ∃ k : Nat, k ≤ ps.length ∧ i = .int .i64 k ∧ gdL ps = gdL (ps.drop k) ∧ Below w.heap.size w wr) (fun i _ => ps.length - (intOf i).toNat)
 case atStart => exact ⟨0, Nat.zero_le _, rfl, rfl, Below.refl _ _⟩
 case round =>
  obtain ⟨k, hk, rfl, hall, hB⟩ := hrel
  have hz := hB.size
  by_cases hlt : k < ps.length
  ·obtain ⟨ad, rfl, hadb, d0, d1⟩ := hr.at hB hlt
   have hdrop : ps.drop k = ps[k] :: ps.drop (k + 1) := List.drop_eq_getElem_cons hlt
   have b0 : (0 : Int) ≤ (k : Int) := by omega
   have b1 : (k : Int) < (ps.length : Int) := by omega
   rw [hdrop, gdL_cons] at hall
   clear hr hdrop
   generalize ps[k] = p at *
   by_cases hg : Gd p
   ·have HG : Hid (gdL ps = gdL (ps.drop (k + 1))) := by unfold Hid; rw [hall, gd_iff.2 hg]; rfl
    clear hall
    unfold Gd at hg
    obtain ⟨g1, g2, g3, g4⟩ := hg
    go_wp2
    exact ⟨⟨k + 1, by omega, by go_num, HG.out, hB.alloc hB.size _⟩, by simp [intOf]; omega⟩
   ·have HG : Hid (gdL ps = false) := by
     unfold Hid; rw [hall, show gd p = false from by rw [← Bool.not_eq_true, gd_iff]; exact hg]; rfl
    clear hall
    have hc : p.1 < -1073741824 ∨ (¬ p.1 < -1073741824 ∧ 1073741824 < p.1) ∨ (¬ p.1 < -1073741824 ∧ ¬ 1073741824 < p.1 ∧ p.2 < -1073741824) ∨ (¬ p.1 < -1073741824 ∧ ¬ 1073741824 < p.1 ∧ ¬ p.2 < -1073741824 ∧ 1073741824 < p.2) := by unfold Gd at hg; omega
    clear hg
    rcases hc with h1 | ⟨h1, h2⟩ | ⟨h1, h2, h3⟩ | ⟨h1, h2, h3, h4⟩
    all_goals
     go_wp2
     go_ret
     rw [HG.out]
     exact ⟨rfl, hB.alloc hB.size _⟩
  ·obtain rfl : k = ps.length := by omega
   have HG : Hid (gdL ps = true) := by unfold Hid; rw [hall, List.drop_length]; rfl
   clear hall
   go_wp2
   go_ret
   rw [HG.out]
   exact ⟨rfl, hB⟩
end Go.Proofs.YtjlnjjmomohpaaaGreat
