/- The contracts of the document's own answers Less, Least and Same. -/
import Derived.Test.YtplbfiglkllljaaGreatItems
import Derived.Test.YtplbfiglkllljaaGreatRefCheck
namespace Go.Proofs.YtplbfiglkllljaaGreat
open Go.RowKit

/-- By X, then by Y. -/
def lessB (a b : Int × Int) : Bool := decide (a.1 < b.1) || (decide (a.1 = b.1) && decide (a.2 < b.2))
theorem take_same {ps qs : List (Int × Int)} {k : Nat} (h1 : k < ps.length) (h2 : k < qs.length) (h : ps.take k = qs.take k) : ps.take (k + 1) = qs.take (k + 1) ↔ ps[k] = qs[k] := by
  rw [List.take_succ_eq_append_getElem h1, List.take_succ_eq_append_getElem h2, h]
  constructor
  · intro e; exact List.head_eq_of_cons_eq (List.append_cancel_left e)
  · intro e; rw [e]
theorem same_end {ps qs : List (Int × Int)} {k : Nat} (hk : ¬ k < ps.length ∨ ¬ k < qs.length) (h1 : k ≤ ps.length) (h2 : k ≤ qs.length) (h : ps.take k = qs.take k) : decide (ps = qs) = ((ps.length : Int) == (qs.length : Int)) := by
  rw [Bool.eq_iff_iff, decide_eq_true_iff, beq_iff_eq]
  constructor
  · rintro rfl; rfl
  · intro e
    have e1 : k = ps.length := by omega
    have e2 : k = qs.length := by omega
    rw [e1, List.take_length, ← e1, e2, List.take_length] at h
    exact h

set_option maxRecDepth 100000 in
set_option maxHeartbeats 2000000 in
theorem ref_same (ps qs : List (Int × Int)) (A B : Option Addr) (ca cb : Nat) (hn : ps.length ≤ maxLen) (w : World) (hr : Pts w w.heap.size A ps) (hr' : Pts w w.heap.size B qs) :
    Calls Tryz.prog 21 #[.slice A ps.length ca, .slice B qs.length cb] w fun e w' => e = .returned (.bool (decide (ps = qs))) ∧ Below w.heap.size w w' := by
  unfold maxLen at hn
  have HB0 := Hold.refl w
  go_enter Tryz.func21, Tryz.ntmps21
  go_wp2_with fail
  go_loopg [5] ps.length (fun g i wr => ∃ k : Nat, k ≤ ps.length ∧ k ≤ qs.length ∧ g = ps.length - k ∧ i = .int .i64 k ∧ ps.take k = qs.take k ∧ Hold w [] wr)
  case atStart => exact ⟨0, Nat.zero_le _, Nat.zero_le _, rfl, rfl, rfl, HB0⟩
  case round =>
    clear HB0
    obtain ⟨k, hk, hk', hgk, rfl, htk, HB⟩ := hrel
    have HGK := Lib.hid hgk
    have HTK := Lib.hid htk
    clear hgk htk
    have b0 : (0 : Int) ≤ (k : Int) := by omega
    by_cases h1 : k < ps.length
    · by_cases h2 : k < qs.length
      · obtain ⟨ad, rfl, -, d0, d1⟩ := hr.at HB.1 h1
        obtain ⟨ae, rfl, -, d2, d3⟩ := hr'.at HB.1 h2
        have b1 : (k : Int) < (ps.length : Int) := by omega
        have b2 : (k : Int) < (qs.length : Int) := by omega
        have HS := Lib.hid (take_same h1 h2 HTK.out)
        have HNE : Hid (ps[k] ≠ qs[k] → decide (ps = qs) = false) := fun h => decide_eq_false fun e => h (by simp only [e])
        clear hr hr'
        generalize ps[k] = a at *
        generalize qs[k] = b at *
        have hcs : (a.1 = b.1 ∧ a.2 = b.2) ∨ (a.1 = b.1 ∧ ¬ a.2 = b.2) ∨ ¬ a.1 = b.1 := by omega
        rcases hcs with ⟨h3, h4⟩ | ⟨h3, h4⟩ | h3
        · have HT := Lib.hid (HS.out.2 (Prod.ext h3 h4))
          have e1 : (a.1 == b.1) = true := by simpa using h3
          have e2 : (a.2 == b.2) = true := by simpa using h4
          clear h3 h4 HS HNE HTK
          go_upto_region 4 with (fail)
          go_quiet (fail)
          have HK := Lib.hid (HB.drewN nq)
          clear HB
          go_wp2
          go_roundg (ps.length - (k + 1))
          case measure => have := HGK.out; omega
          case rel => exact ⟨k + 1, by omega, by omega, rfl, by go_num, HT.out, HK.out⟩
        · have HT := Lib.hid (HNE.out (fun e => h4 (congrArg Prod.snd e)))
          have e1 : (a.1 == b.1) = true := by simpa using h3
          have e2 : (a.2 == b.2) = false := by simpa using h4
          clear h3 h4 HS HNE HTK
          go_upto_region 4 with (fail)
          go_quiet (fail)
          have HK := Lib.hid (HB.drewN nq).1
          clear HB
          go_wp2
          go_ret
          rw [HT.out]
          exact ⟨rfl, HK.out⟩
        · have HT := Lib.hid (HNE.out (fun e => h3 (congrArg Prod.fst e)))
          have e1 : (a.1 == b.1) = false := by simpa using h3
          clear h3 HS HNE HTK
          go_upto_region 4 with (fail)
          go_quiet (fail)
          have HK := Lib.hid (HB.drewN nq).1
          clear HB
          go_wp2
          go_ret
          rw [HT.out]
          exact ⟨rfl, HK.out⟩
      · have HE := Lib.hid (same_end (.inr h2) hk hk' HTK.out)
        have HK := Lib.hid HB.1
        clear HTK HB hr hr'
        go_wp2
        go_ret
        rw [HE.out]
        exact ⟨rfl, HK.out⟩
    · have HE := Lib.hid (same_end (.inl h1) hk hk' HTK.out)
      have HK := Lib.hid HB.1
      clear HTK HB hr hr'
      go_wp2
      go_ret
      rw [HE.out]
      exact ⟨rfl, HK.out⟩

/-- The place of the least corner so far. -/
def leastI (ps : List (Int × Int)) : Nat → Nat
  | 0 => 0
  | i + 1 => if lessB (nx ps i) (nx ps (leastI ps i)) then i else leastI ps i
/-- A ring, begun elsewhere. -/
def rotL (ps : List (Int × Int)) (k : Nat) : List (Int × Int) := (List.range ps.length).map fun i => nx ps (k + i)
theorem rotL_length (ps : List (Int × Int)) (k : Nat) : (rotL ps k).length = ps.length := by unfold rotL; simp
theorem rotL_get (ps : List (Int × Int)) (k i : Nat) (hi : i < ps.length) : (rotL ps k)[i]? = some (nx ps (k + i)) := by
  unfold rotL; rw [List.getElem?_map, List.getElem?_range hi]; rfl
theorem nx_rotL (ps : List (Int × Int)) (k i : Nat) (h : 0 < ps.length) : nx (rotL ps k) i = nx ps (i + k) := by
  have hi := Nat.mod_lt i h
  have e : nx (rotL ps k) i = nx (rotL ps k) (i % ps.length) := by rw [← rotL_length ps k, nx_mod]
  rw [e]
  unfold nx
  rw [rotL_length, Nat.mod_mod, List.getD_eq_getElem?_getD, rotL_get ps k _ hi, Option.getD_some]
  unfold nx
  rw [Nat.add_comm k, Nat.mod_add_mod]
section
variable {w W : World} {L : List (Nat × Array Value × TypeId)} {q0 q1 : Addr} {a b : Int × Int}
end

end Go.Proofs.YtplbfiglkllljaaGreat
