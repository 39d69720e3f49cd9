/- The document's side of layer frame: Num, PutNum, Seal. -/
import Derived.Test.YtdnfijhclikkfaaDoorFOpn
import Derived.Test.YtdnfijhclikkfaaDoorFSumR
namespace Go.Proofs.YtdnfijhclikkfaaDoor
open Go.RowKit Go.Lib

set_option maxHeartbeats 1000000 in
theorem rnum_bad {W : World} {A : Option Addr} {c n : Nat} (p k : Int) (h : k < 1 ∨ 7 < k ∨ p < 0) :
    Calls Tryd.prog 15 #[.slice A n c, .int .i64 p, .int .i64 k] W fun e w' => e = .returned (.tuple #[.int .i64 0, .int .i64 1]) ∧ w' = W := by
  by_cases h1 : k < 1
  · go_enter Tryd.func15, Tryd.ntmps15
    go_wp2_with fail
    refine bodyPost_ret (v := .tuple #[.int .i64 0, .int .i64 1]) ?_ rfl ⟨rfl, rfl⟩
    simp [results, Tryd.results15, go_sem]
  · by_cases h2 : 7 < k
    · go_enter Tryd.func15, Tryd.ntmps15
      go_wp2_with fail
      refine bodyPost_ret (v := .tuple #[.int .i64 0, .int .i64 1]) ?_ rfl ⟨rfl, rfl⟩
      simp [results, Tryd.results15, go_sem]
    · have h3 : p < 0 := by omega
      clear h
      go_enter Tryd.func15, Tryd.ntmps15
      go_wp2_with fail
      refine bodyPost_ret (v := .tuple #[.int .i64 0, .int .i64 1]) ?_ rfl ⟨rfl, rfl⟩
      simp [results, Tryd.results15, go_sem]
set_option maxHeartbeats 1000000 in
theorem rnum_short {W : World} {A : Option Addr} {c n : Nat} (p k : Int) (h1 : 1 ≤ k) (h2 : k ≤ 7) (h3 : 0 ≤ p) (hp : p ≤ 9223372036854775807) (hs : (n : Int) - p < k) (hm : n ≤ 140737488355328) :
    Calls Tryd.prog 15 #[.slice A n c, .int .i64 p, .int .i64 k] W fun e w' => e = .returned (.tuple #[.int .i64 0, .int .i64 14]) ∧ w' = W := by
  have hw : IntKind.i64.wrap ((n : Int) - p) = (n : Int) - p := IntWalk.i64_in _ (by omega)
  have g1 : ¬ k < 1 := by omega
  have g2 : ¬ 7 < k := by omega
  have g3 : ¬ p < 0 := by omega
  clear hp hm
  by_cases h4 : (n : Int) < p
  · go_enter Tryd.func15, Tryd.ntmps15
    go_wp2_with fail
    refine bodyPost_ret (v := .tuple #[.int .i64 0, .int .i64 14]) ?_ rfl ⟨rfl, rfl⟩
    simp [results, Tryd.results15, go_sem]
  · go_enter Tryd.func15, Tryd.ntmps15
    go_wp2_with fail
    refine bodyPost_ret (v := .tuple #[.int .i64 0, .int .i64 14]) ?_ rfl ⟨rfl, rfl⟩
    simp [results, Tryd.results15, go_sem]
set_option maxHeartbeats 2000000 in
theorem rnum_good {W : World} {A : Option Addr} {c : Nat} {s : List UInt8} (p k : Nat) (hB : BytesAt W A s.length s) (h1 : 1 ≤ k) (h2 : k ≤ 7) (hs : p + k ≤ s.length) (hm : s.length ≤ 140737488355328) :
    Calls Tryd.prog 15 #[.slice A s.length c, .int .i64 (p : Nat), .int .i64 (k : Nat)] W fun e w' => e = .returned (.tuple #[.int .i64 (numL ((s.drop p).take k) : Nat), .int .i64 0]) ∧ w' = W := by
  have hl : ((s.drop p).take k).length = k := by simp; omega
  have hg1 : ¬ (k : Int) < 1 := by omega
  have hg2 : ¬ (7 : Int) < (k : Int) := by omega
  have hg3 : ¬ (p : Int) < 0 := by omega
  have hg5 : ¬ (s.length : Int) < (p : Int) := by omega
  have hw1 : IntKind.i64.wrap ((s.length : Int) - (p : Int)) = (s.length : Int) - (p : Int) := IntWalk.i64_in _ (by omega)
  have hg4 : ¬ (s.length : Int) - (p : Int) < (k : Int) := by omega
  obtain ⟨t, ht⟩ : ∃ t, t = (s.drop p).take k := ⟨_, rfl⟩
  have HT := Lib.hid ht
  rw [← ht] at hl ⊢
  have HL := Lib.hid hl
  clear hl ht
  go_enter Tryd.func15, Tryd.ntmps15
  go_wp2_with fail
  go_loopw [8, 9] (fun v i wr => ∃ (j S : Nat), v = .int .i64 (S : Nat) ∧ i = .int .i64 j ∧ j ≤ k ∧ wr = W ∧ Hid (S = numFrom 0 (t.take j))) (fun _ i _ => k - (RowKit.intOf i).toNat)
  case atStart => exact ⟨0, 0, rfl, rfl, by omega, rfl, rfl⟩
  case round =>
    obtain ⟨j, S, rfl, rfl, hj, hw, HS⟩ := hrel
    have hw := hw.symm
    subst hw
    by_cases hlt : j < k
    · have hl1 : (j : Int) < (k : Int) := by omega
      have hl0 : (0 : Int) ≤ (j : Int) := by omega
      obtain ⟨g, o, rfl, hcj⟩ := byte_at hB (show p + j < s.length by omega)
      have hjt : j < t.length := by rw [HL.out]; exact hlt
      have HN := Lib.hid (take_next hjt)
      have hxx : t[j] = s[p + j] := by
        have h1 : t[j]? = s[p + j]? := by rw [HT.out, List.getElem?_take_of_lt hlt, List.getElem?_drop]
        rw [List.getElem?_eq_getElem hjt, List.getElem?_eq_getElem (by omega)] at h1
        injection h1
      rw [hxx] at HN
      generalize s[p + j] = x at *
      have hS : S < 281474976710656 := by
        rw [HS.out]
        have := numL_lt (t.take j)
        have hjl : (t.take j).length = j := by rw [List.length_take, HL.out]; omega
        rw [hjl] at this
        exact Nat.lt_of_lt_of_le this (pow_le (by omega))
      have hx := x.toNat_lt
      have hwp : IntKind.i64.wrap ((p : Int) + (j : Int)) = ((p + j : Nat) : Int) := by rw [IntWalk.i64_in _ (by omega)]; omega
      have hwx : IntKind.i64.wrap ((S : Int) * 256) = (S : Int) * 256 := IntWalk.i64_in _ (by omega)
      have hwy : IntKind.i64.wrap ((x.toNat : Nat) : Int) = ((x.toNat : Nat) : Int) := IntWalk.i64_in _ (by omega)
      have hwz : IntKind.i64.wrap ((S : Int) * 256 + (x.toNat : Int)) = ((S * 256 + x.toNat : Nat) : Int) := by rw [IntWalk.i64_in _ (by omega)]; omega
      have hpj : ((p + j : Nat) : Int) < (s.length : Int) := by omega
      clear hxx hjt hB
      go_wp2_with fail
      refine ⟨⟨j + 1, S * 256 + x.toNat, by simp, by go_num, by omega, by first | rfl | trivial, ?_⟩, by simp [RowKit.intOf]; omega⟩
      show _ = _
      rw [HN.out, numFrom_snoc, ← HS.out]
    · have hl1 : ¬ (j : Int) < (k : Int) := by omega
      have hv : Hid (numL t = S) := by
        show _ = _
        rw [HS.out, List.take_of_length_le (by rw [HL.out]; omega)]; rfl
      go_wp2_with fail
      refine bodyPost_ret (v := .tuple #[.int .i64 (S : Nat), .int .i64 0]) ?_ rfl ⟨by rw [hv.out], rfl⟩
      simp [results, Tryd.results15, go_sem]
theorem ref_Num {W : World} {A : Option Addr} {c : Nat} {s : List UInt8} (p k : Int) (hB : BytesAt W A s.length s) (hm : s.length ≤ 140737488355328) (hp : p ≤ 9223372036854775807) :
    Calls Tryd.prog 15 #[.slice A s.length c, .int .i64 p, .int .i64 k] W fun e w' => e = .returned (.tuple #[.int .i64 (nmV s p k : Nat), .int .i64 (nmE s p k)]) ∧ w' = W := by
  by_cases h1 : k < 1 ∨ 7 < k ∨ p < 0
  · have he : nmE s p k = 1 := by unfold nmE; rw [if_pos h1]; rfl
    have hv : nmV s p k = 0 := by unfold nmV; rw [if_neg (by rw [he]; decide)]
    rw [he, hv]
    exact rnum_bad p k h1
  · by_cases h2 : (s.length : Int) - p < k
    · have he : nmE s p k = 14 := by unfold nmE; rw [if_neg h1, if_pos h2]; rfl
      have hv : nmV s p k = 0 := by unfold nmV; rw [if_neg (by rw [he]; decide)]
      rw [he, hv]
      exact rnum_short p k (by omega) (by omega) (by omega) hp h2 hm
    · have he : nmE s p k = 0 := by unfold nmE; rw [if_neg h1, if_neg h2]
      have hv : nmV s p k = numL ((s.drop p.toNat).take k.toNat) := by unfold nmV; rw [if_pos he]
      rw [he, hv]
      have := rnum_good (A := A) (c := c) p.toNat k.toNat hB (by omega) (by omega) (by omega) hm
      rwa [show ((p.toNat : Nat) : Int) = p by omega, show ((k.toNat : Nat) : Int) = k by omega] at this
end Go.Proofs.YtdnfijhclikkfaaDoor
