/- The contract of the program's call that tells whether all points of a list are one. -/
import Derived.Test.YtkkdjbmdfpmkpaaEnds
import Derived.BigQuiet
namespace Go.Proofs.Ytkkdjbmdfpmkpaa
open Go.RowKit

/-- Whether all points of a list are the first one. -/
def oneB (ps : List (Int × Int)) : Bool := ps.all (fun q => decide (q = ps.headD (0, 0)))

theorem add_none (a : Addr) : a.add 0 = a := by simp [Addr.add]
theorem below_dn {B : Nat} {a w : World} (h : Below B a w) (n : Nat) : Below B a (w.drewN n) := ⟨h.os, h.tape, h.output, h.size, h.block⟩

set_option maxHeartbeats 800000 in
theorem alone_any (ps : List (Int × Int)) (A : Option Addr) (cap : Nat) (w : World) (hn : ps.length ≤ maxLen) (hr : Pts w w.heap.size A ps) :
    Calls Try.prog 76 #[.slice A ps.length cap] w fun e w' => e = .returned (.bool (oneB ps)) ∧ Below w.heap.size w w' := by
  unfold maxLen at hn
  go_enter Try.func76, Try.ntmps76
  go_wp2
  go_loopw [7] (fun i wr => ∃ k : Nat, k ≤ ps.length ∧ i = .int .i64 k ∧ oneB ps = (ps.drop k).all (fun q => decide (q = ps.headD (0, 0))) ∧ Below w.heap.size w wr) (fun i _ => ps.length - (intOf i).toNat)
  case atStart => exact ⟨0, Nat.zero_le _, rfl, rfl, Below.refl _ _⟩
  case round =>
    obtain ⟨k, hk, rfl, hall, hB⟩ := hrel
    have hz := hB.size
    by_cases hlt : k < ps.length
    · obtain ⟨ad, rfl, hadb, d0, d1⟩ := hr.at hB hlt
      obtain ⟨ad', e', -, d2, d3⟩ := hr.at (hB.alloc hB.size (Obj.cells #[.int .i64 ps[k].1, .int .i64 ps[k].2] 35)) (show 0 < ps.length by omega)
      obtain rfl := Option.some.inj e'
      have hdrop : ps.drop k = ps[k] :: ps.drop (k + 1) := List.drop_eq_getElem_cons hlt
      have hh : ps.headD (0, 0) = ps[0] := by
        cases ps with
        | nil => simp at hlt
        | cons p q => rfl
      have b0 : (0 : Int) ≤ (k : Int) := by omega
      have b1 : (k : Int) < (ps.length : Int) := by omega
      have b2 : (0 : Int) < (ps.length : Int) := by omega
      have b3 : 0 < ps.length := by omega
      rw [hdrop, List.all_cons, hh] at hall
      clear hr hdrop e'
      have HH := Lib.hid hh
      clear hh
      rw [Nat.zero_mul, add_none] at d2 d3
      generalize ps[k] = p at *
      generalize ps[0] = q at *
      by_cases h1 : p.1 = q.1
      · by_cases h2 : p.2 = q.2
        · obtain rfl : p = q := Prod.ext h1 h2
          have HG : Hid (oneB ps = (ps.drop (k + 1)).all (fun q => decide (q = ps.headD (0, 0)))) := by unfold Hid; rw [hall, HH.out, decide_eq_true rfl, Bool.true_and]
          clear hall h1 h2 HH
          go_upto_region 4 with (fail)
          go_quiet (fail)
          go_wp2
          exact ⟨⟨k + 1, by omega, by go_num, HG.out, below_dn (hB.alloc hB.size _) _⟩, by simp [intOf]; omega⟩
        · have HG : Hid (oneB ps = false) := by unfold Hid; rw [hall, decide_eq_false (fun e => h2 (congrArg Prod.snd e)), Bool.false_and]
          have e1 : (p.1 == q.1) = true := by simpa using h1
          have e2 : (p.2 == q.2) = false := by simpa using h2
          clear hall h1 h2 HH
          go_upto_region 4 with (fail)
          go_quiet (fail)
          go_wp2
          go_ret
          rw [HG.out]
          exact ⟨rfl, below_dn (hB.alloc hB.size _) _⟩
      · have HG : Hid (oneB ps = false) := by unfold Hid; rw [hall, decide_eq_false (fun e => h1 (congrArg Prod.fst e)), Bool.false_and]
        have e1 : (p.1 == q.1) = false := by simpa using h1
        clear hall h1 HH
        go_upto_region 4 with (fail)
        go_quiet (fail)
        go_wp2
        go_ret
        rw [HG.out]
        exact ⟨rfl, below_dn (hB.alloc hB.size _) _⟩
    · obtain rfl : k = ps.length := by omega
      have HG : Hid (oneB ps = true) := by unfold Hid; rw [hall, List.drop_length]; rfl
      clear hall
      go_wp2
      go_ret
      rw [HG.out]
      exact ⟨rfl, hB⟩
end Go.Proofs.Ytkkdjbmdfpmkpaa
