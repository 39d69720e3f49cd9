/- The document's UTF8: just those texts that the library has for valid ones. -/
import Derived.Test.YtmjooghfghmngaaDoorJRefC
import Derived.Test.YtmjooghfghmngaaDoorJNumL
namespace Go.Proofs.YtmjooghfghmngaaDoor
open Go.RowKit Go.Shelf Go.Lib

theorem chW_bounds {s : List UInt8} {i : Nat} (hi : i < s.length) (h : chW s i ≠ 0) : 1 ≤ chW s i ∧ i + chW s i ≤ s.length ∧ Lib.validD (s.drop i) = Lib.validD (s.drop (i + chW s i)) := by
  have hne : s.drop i ≠ [] := fun e => by have := congrArg List.length e; simp at this; omega
  have hv : ¬ ((Lib.decodeL (s.drop i)).1 = 65533 ∧ (Lib.decodeL (s.drop i)).2 = 1) := fun hc => h (by unfold chW chD; rw [if_pos hc])
  have he : chW s i = (Lib.decodeL (s.drop i)).2 := by unfold chW chD; rw [if_neg hv]
  have hle := Lib.decodeL_le (s.drop i) hne
  rw [List.length_drop] at hle
  refine ⟨by omega, by omega, ?_⟩
  rw [Lib.validD_step _ hne, if_neg hv, he, List.drop_drop]
theorem chW_zero {s : List UInt8} {i : Nat} (hi : i < s.length) (h : chW s i = 0) : Lib.validD (s.drop i) = false := by
  have hne : s.drop i ≠ [] := fun e => by have := congrArg List.length e; simp at this; omega
  rw [Lib.validD_step _ hne]
  by_cases hv : (Lib.decodeL (s.drop i)).1 = 65533 ∧ (Lib.decodeL (s.drop i)).2 = 1
  · rw [if_pos hv]
  · exfalso
    unfold chW chD at h
    rw [if_neg hv, Lib.decodeL_N] at h
    have := Lib.decodeN_ge1 (s.drop i).length ((s.drop i).getD 0 0).toNat ((s.drop i).getD 1 0).toNat ((s.drop i).getD 2 0).toNat ((s.drop i).getD 3 0).toNat
    omega

set_option maxHeartbeats 2000000 in
theorem ref_UTF8 (t : ByteArray) (W : World) (ht : t.size ≤ 2097152) :
    Calls Tryd.prog 15 #[.string t] W fun e w' => e = .returned (.bool (Lib.validD t.data.toList)) ∧ Below W.heap.size W w' := by
  obtain ⟨W1, cap, hc, hb, hs, hY, hl, hm⟩ := conv_bytes W t ht
  obtain ⟨s, hsd⟩ : ∃ s, s = t.data.toList := ⟨_, rfl⟩
  have hlen : t.size = s.length := by rw [hsd, ← Lib.size_eq]
  rw [← hsd] at hY ⊢
  rw [hlen] at hc
  obtain ⟨R, hR⟩ : ∃ R, R = Lib.validD s := ⟨_, rfl⟩
  rw [← hR]
  have hsl : s.length ≤ 2097152 := by omega
  have HC := Lib.hid (fun i hi => ref_Char (cp := cap) hY hsl i hi)
  have HB := Lib.hid hb
  have HR : Hid (R = Lib.validD (s.drop 0)) := hR
  clear hY hb hR hsd hlen
  go_enter Tryd.func15, Tryd.ntmps15
  go_wp2_with fail
  go_loopw [4] (fun i wr => ∃ j : Nat, i = .int .i64 j ∧ wr = W1 ∧ j ≤ s.length ∧ Hid (R = Lib.validD (s.drop j))) (fun i _ => s.length - (RowKit.intOf i).toNat)
  case atStart => exact ⟨0, rfl, rfl, by omega, HR⟩
  case round =>
    obtain ⟨j, rfl, hw, hj, HJ⟩ := hrel
    have hw := hw.symm
    subst hw
    by_cases hlt : j < s.length
    · have hl1 : (j : Int) < (s.length : Int) := by omega
      have hcj := HC.out j hlt
      by_cases hz : chW s j = 0
      · have hr : R = false := by rw [HJ.out]; exact chW_zero hlt hz
        subst hr
        rw [hz] at hcj
        have HCJ := Lib.hid hcj
        clear hcj hz
        go_wp2_with (go_at_call 25; (with_reducible refine HCJ.out.mono ?_); rintro e' wz ⟨rfl, hwz⟩; have hwz := hwz.symm; subst hwz)
        go_ret
        exact ⟨rfl, HB.out⟩
      · obtain ⟨z1, z2, z3⟩ := chW_bounds hlt hz
        have HZ := Lib.hid z3
        have HCJ := Lib.hid hcj
        generalize chW s j = n at *
        have hn0 : ((n : Int) == 0) = false := by rw [beq_eq_false_iff_ne]; omega
        have hnw : IntKind.i64.wrap ((j : Int) + (n : Int)) = ((j + n : Nat) : Int) := by rw [IntWalk.i64_in _ (by omega)]; omega
        clear hcj z3 hz
        go_wp2_with (go_at_call 25; (with_reducible refine HCJ.out.mono ?_); rintro e' wz ⟨rfl, hwz⟩; have hwz := hwz.symm; subst hwz)
        refine ⟨⟨j + n, rfl, by first | rfl | trivial, by omega, ?_⟩, by simp [RowKit.intOf]; omega⟩
        show R = _
        rw [HJ.out, HZ.out]
    · have hl1 : ¬ (j : Int) < (s.length : Int) := by omega
      have hr : R = true := by
        rw [HJ.out, List.drop_eq_nil_of_le (by omega)]; rfl
      subst hr
      go_wp2_with fail
      go_ret
      exact ⟨rfl, HB.out⟩
end Go.Proofs.YtmjooghfghmngaaDoor
