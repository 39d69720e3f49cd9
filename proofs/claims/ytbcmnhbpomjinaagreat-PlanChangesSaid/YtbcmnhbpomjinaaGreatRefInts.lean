/- The document's own SameInts. -/
import Derived.Test.YtbcmnhbpomjinaaGreatRefFine
namespace Go.Proofs.YtbcmnhbpomjinaaGreat
open Go.RowKit

theorem takes_same {xs ys : List Int} {k : Nat} (h1 : k < xs.length) (h2 : k < ys.length) (h : xs.take k = ys.take k) (e : xs[k] = ys[k]) : xs.take (k + 1) = ys.take (k + 1) := by
  rw [List.take_succ_eq_append_getElem h1, List.take_succ_eq_append_getElem h2, h, e]
set_option maxRecDepth 100000 in
set_option maxHeartbeats 1000000 in
theorem ref_ints (xs ys : List Int) (A B : Option Addr) (ca cb : Nat) (hn : xs.length ≤ 1000000) (w : World) (ha : Items w w.heap.size A encN xs) (hb : Items w w.heap.size B encN ys) :
    Calls Tryz.prog 29 #[.slice A xs.length ca, .slice B ys.length cb] w fun e w' => e = .returned (.bool (decide (xs = ys))) ∧ Below w.heap.size w w' := by
  have HA := Lib.hid (fun W (h : Below w.heap.size w W) => ha.on h)
  have HB := Lib.hid (fun W (h : Below w.heap.size w W) => hb.on h)
  have HN := Lib.hid hn
  have HB0 := Hold.refl w
  clear ha hb hn
  go_enter Tryz.func29, Tryz.ntmps29
  go_wp2_with fail
  go_loopg [5] xs.length (fun g i wr => ∃ k : Nat, k ≤ xs.length ∧ k ≤ ys.length ∧ g = xs.length - k ∧ i = .int .i64 k ∧ xs.take k = ys.take k ∧ Hold w [] wr)
  case atStart => exact ⟨0, Nat.zero_le _, Nat.zero_le _, rfl, rfl, rfl, HB0⟩
  case round =>
    clear HB0
    obtain ⟨k, hk1, hk2, hgk, rfl, htk, HW⟩ := hrel
    have HGK := Lib.hid hgk
    have HTK := Lib.hid htk
    clear hgk htk
    have b0 : (0 : Int) ≤ (k : Int) := by omega
    by_cases h1 : k < xs.length
    · have b1 : (k : Int) < (xs.length : Int) := by omega
      have b9 : (xs.length : Int) ≤ 1000000 := by have := HN.out; omega
      by_cases h2 : k < ys.length
      · obtain ⟨ad, rfl, -, d0, -⟩ := (HA.out _ HW.1).at kindN.len h1
        obtain ⟨ae, rfl, -, d1, -⟩ := (HB.out _ HW.1).at kindN.len h2
        have d0 := d0 _ (by decide) rfl
        have d1 := d1 _ (by decide) rfl
        rw [Nat.mul_one] at d0 d1
        have b2 : (k : Int) < (ys.length : Int) := by omega
        have HS := Lib.hid (takes_same h1 h2 HTK.out)
        have HNE : Hid (xs[k] ≠ ys[k] → decide (xs = ys) = false) := fun h => decide_eq_false fun e => h (by simp only [e])
        clear HA HB HTK
        generalize xs[k] = a at *
        generalize ys[k] = b at *
        go_upto_region 4 with (fail)
        by_cases h3 : a = b
        · have HT := Lib.hid (HS.out h3)
          have e1 : (a == b) = true := by simpa using h3
          have e2 : (a != b) = false := by simpa using h3
          clear HS HNE h3
          go_quiet (fail)
          have HK := Lib.hid (HW.drewN nq)
          clear HW
          go_wp2
          go_roundg (xs.length - (k + 1))
          case measure => have := HGK.out; omega
          case rel => exact ⟨k + 1, by omega, by omega, rfl, by go_num, HT.out, HK.out⟩
        · have HF := Lib.hid (HNE.out h3)
          have e1 : (a == b) = false := by simpa using h3
          have e2 : (a != b) = true := by simpa using h3
          clear HS HNE h3
          go_quiet (fail)
          have HK := Lib.hid (HW.drewN nq).1
          clear HW
          go_wp2
          go_ret
          rw [HF.out]
          exact ⟨rfl, HK.out⟩
      · have b2 : ¬ (k : Int) < (ys.length : Int) := by omega
        have HF : Hid (decide (xs = ys) = false) := decide_eq_false fun e => by rw [e] at h1; omega
        have e1 : ((xs.length : Int) == (ys.length : Int)) = false := by simp; omega
        have HK := Lib.hid HW.1
        clear HA HB HTK HW h1 h2
        go_wp2
        go_ret
        rw [HF.out]
        exact ⟨rfl, HK.out⟩
    · have b1 : ¬ (k : Int) < (xs.length : Int) := by omega
      have hk : k = xs.length := by omega
      have HK := Lib.hid HW.1
      by_cases h2 : xs.length = ys.length
      · have HF : Hid (decide (xs = ys) = true) := decide_eq_true (by
          have := HTK.out
          rw [hk, List.take_length, h2, List.take_length] at this
          exact this)
        have e1 : ((xs.length : Int) == (ys.length : Int)) = true := by simp; omega
        clear HA HB HTK HW h1 h2 hk hk1 hk2
        go_wp2
        go_ret
        rw [HF.out]
        exact ⟨rfl, HK.out⟩
      · have HF : Hid (decide (xs = ys) = false) := decide_eq_false fun e => h2 (by rw [e])
        have e1 : ((xs.length : Int) == (ys.length : Int)) = false := by simp; omega
        clear HA HB HTK HW h1 h2 hk hk1 hk2
        go_wp2
        go_ret
        rw [HF.out]
        exact ⟨rfl, HK.out⟩
end Go.Proofs.YtbcmnhbpomjinaaGreat
