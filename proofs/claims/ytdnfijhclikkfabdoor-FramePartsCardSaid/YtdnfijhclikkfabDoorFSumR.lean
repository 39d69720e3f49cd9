/- The document's sum, bit by bit. -/
import Derived.Test.YtdnfijhclikkfabDoorFSum
namespace Go.Proofs.YtdnfijhclikkfabDoor
open Go.RowKit Go.Lib

set_option maxHeartbeats 4000000 in
theorem ref_Sum {W : World} {A : Option Addr} {c : Nat} {s : List UInt8} (hB : BytesAt W A s.length s) (hm : s.length ≤ 140737488355328) :
    Calls Tryd.prog 14 #[.slice A s.length c] W fun e w' => e = .returned (.int .u32 (sumB s : Nat)) ∧ w' = W := by
  go_enter Tryd.func14, Tryd.ntmps14
  go_wp2_with fail
  go_loopw [3, 4] (fun v i wr => ∃ (j S : Nat), v = .int .u32 (S : Nat) ∧ i = .int .i64 j ∧ j ≤ s.length ∧ wr = W ∧ Hid (S = sumFrom 4294967295 (s.take j))) (fun _ i _ => s.length - (RowKit.intOf i).toNat)
  case atStart => exact ⟨0, 4294967295, rfl, rfl, by omega, rfl, sum_start s⟩
  case round =>
    obtain ⟨j, S, rfl, rfl, hj, hw, HS⟩ := hrel
    have hw := hw.symm
    subst hw
    have hSl : S < 4294967296 := by rw [HS.out]; exact sumFrom_lt _ (by decide)
    by_cases hlt : j < s.length
    · have hl1 : (j : Int) < (s.length : Int) := by omega
      have hl0 : (0 : Int) ≤ (j : Int) := by omega
      obtain ⟨g, o, rfl, hcj⟩ := byte_at hB hlt
      have HT := Lib.hid (take_next hlt)
      generalize s[j] = x at *
      have hx := x.toNat_lt
      have hxw := u32_byte x
      clear hB
      go_wp2_with fail
      go_loopw [3, 5] (fun v i wr => ∃ (k R : Nat), v = .int .u32 (R : Nat) ∧ i = .int .i64 k ∧ k ≤ 8 ∧ R < 4294967296 ∧ wr = W ∧ Hid (R ^^^ (x.toNat / 2 ^ k) = bitsS k (S ^^^ x.toNat))) (fun _ i _ => 8 - (RowKit.intOf i).toNat)
      case atStart => exact ⟨0, S, rfl, rfl, by omega, hSl, rfl, by show _ = _; simp [bitsS]⟩
      case round =>
        obtain ⟨k, R, rfl, rfl, hk, hR, hw, HR⟩ := hrel
        have hw := hw.symm
        subst hw
        by_cases hk8 : k < 8
        · have hk1 : (k : Int) < 8 := by omega
          have HN := Lib.hid (round_same R x.toNat k _ HR.out)
          have HL := Lib.hid (roundR_lt (c := x.toNat) (k := k) hR)
          have hxk : x.toNat / 2 ^ k < 4294967296 := Nat.lt_of_le_of_lt (Nat.div_le_self _ _) (by omega)
          have hxo := u32_xor_nat (x.toNat / 2 ^ k) R hxk hR
          have hxe : ((x.toNat / 2 ^ k : Nat) : Int) = (x.toNat : Int) / 2 ^ k := by simp
          rw [hxe] at hxo
          have hql : (x.toNat / 2 ^ k) ^^^ R < 4294967296 := Nat.xor_lt_two_pow (n := 32) hxk hR
          by_cases hq : (x.toNat / 2 ^ k ^^^ R) % 2 = 1
          · have hb : bits .and .u32 ((x.toNat / 2 ^ k ^^^ R : Nat) : Int) 1 = 1 := by
              have := u32_and_nat (x.toNat / 2 ^ k ^^^ R) 1 hql (by decide)
              rw [Nat.and_one_is_mod, hq] at this
              exact this
            have hxr : bits .xor .u32 ((R : Int) / 2) 3988292384 = ((R / 2 ^^^ 3988292384 : Nat) : Int) := by
              rw [← u32_xor_nat (R / 2) 3988292384 (by omega) (by decide)]; rfl
            have hr : roundR R x.toNat k = R / 2 ^^^ 3988292384 := by unfold roundR; rw [if_pos hq]
            rw [hr] at HN HL
            have HL' := Lib.hid HL.out
            clear hr hq hxe hql hxk HL
            generalize (x.toNat / 2 ^ k) ^^^ R = Q at *
            generalize R / 2 ^^^ 3988292384 = R2 at *
            go_wp2_with fail
            refine ⟨⟨k + 1, R2, rfl, by go_num, by omega, HL'.out, by first | rfl | trivial, HN.out⟩, by simp [RowKit.intOf]; omega⟩
          · have hb : bits .and .u32 ((x.toNat / 2 ^ k ^^^ R : Nat) : Int) 1 = 0 := by
              have := u32_and_nat (x.toNat / 2 ^ k ^^^ R) 1 hql (by decide)
              rw [Nat.and_one_is_mod, show (x.toNat / 2 ^ k ^^^ R) % 2 = 0 by omega] at this
              exact this
            have hr : roundR R x.toNat k = R / 2 := by unfold roundR; rw [if_neg hq, Nat.xor_zero]
            rw [hr] at HN HL
            have HL' := Lib.hid HL.out
            clear hr hq hxe hql hxk HL
            generalize (x.toNat / 2 ^ k) ^^^ R = Q at *
            go_wp2_with fail
            refine ⟨⟨k + 1, R / 2, by simp, by go_num, by omega, HL'.out, by first | rfl | trivial, HN.out⟩, by simp [RowKit.intOf]; omega⟩
        · have hk1 : ¬ (k : Int) < 8 := by omega
          obtain rfl : k = 8 := by omega
          have HE : Hid (R = byteS S x) := by
            have := HR.out
            rw [show (2 : Nat) ^ 8 = 256 from rfl, Nat.div_eq_of_lt (by omega), Nat.xor_zero] at this
            exact this
          go_wp2_with fail
          refine ⟨⟨j + 1, R, rfl, by go_num, by omega, by first | rfl | trivial, ?_⟩, by simp [RowKit.intOf]; omega⟩
          show R = _
          rw [HT.out, sumFrom_append, ← HS.out, sumFrom_one, HE.out]
    · have hl1 : ¬ (j : Int) < (s.length : Int) := by omega
      have hs := Lib.hid (sum_done HS.out (by omega))
      have hu : (4294967295 : Int) - S = ((4294967295 - S : Nat) : Int) := by omega
      go_wp2_with fail
      go_ret
      exact ⟨by rw [hs.out, ← hu]; rfl, rfl⟩
end Go.Proofs.YtdnfijhclikkfabDoor
