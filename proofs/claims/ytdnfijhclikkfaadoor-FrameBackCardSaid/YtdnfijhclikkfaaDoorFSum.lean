/- The sum: the program's, four bits at once, and the document's, bit by bit. -/
import Derived.Test.YtdnfijhclikkfaaDoorFBase
namespace Go.Proofs.YtdnfijhclikkfaaDoor
open Go.RowKit Go.Lib

theorem u32_byte (c : UInt8) : IntKind.u32.wrap ((c.toNat : Nat) : Int) = ((c.toNat : Nat) : Int) := by
  have := c.toNat_lt
  rw [IntKind.wrap_u32']; omega
set_option maxHeartbeats 1000000 in
theorem fourOn_any {W : World} (hE : Env W) (n : Nat) (hn : n < 4294967296) :
    Calls Tryd.prog 21 #[.int .u32 (n : Nat)] W fun e w' => e = .returned (.int .u32 (bitsS 4 n : Nat)) ∧ w' = W := by
  have hc := hE.1 (n % 16) (Nat.mod_lt _ (by decide))
  have ht := four_lt (n % 16) (Nat.mod_lt _ (by decide))
  rw [four_bits]
  generalize byFour.getD (n % 16) 0 = T at *
  have h1 : bits .and .u32 (n : Int) 15 = ((n % 16 : Nat) : Int) := by
    have := u32_and_nat n 15 hn (by decide)
    rw [show (n &&& 15) = n % 16 from Nat.and_two_pow_sub_one_eq_mod n 4] at this
    exact this
  have h2 : bits .xor .u32 ((n : Int) / 16) (T : Int) = ((n / 16 ^^^ T : Nat) : Int) := by
    have := u32_xor_nat (n / 16) T (by omega) ht
    rw [← this]
    congr 1
  have hm : n % 16 < 16 := Nat.mod_lt _ (by decide)
  generalize n % 16 = q at *
  go_enter Tryd.func21, Tryd.ntmps21
  go_wp2_with fail
  go_ret
  exact ⟨rfl, rfl⟩
theorem sum_start (s : List UInt8) : 4294967295 = sumFrom 4294967295 (s.take 0) := by rw [List.take_zero]; unfold sumFrom; rw [List.foldl_nil]
theorem byteS_four (S : Nat) (x : UInt8) : byteS S x = bitsS 4 (bitsS 4 (S ^^^ x.toNat)) := by unfold byteS; rw [eight_bits]
theorem sumFrom_one (S : Nat) (x : UInt8) : sumFrom S [x] = byteS S x := by unfold sumFrom; rw [List.foldl_cons, List.foldl_nil]
theorem sum_done {S : Nat} {s : List UInt8} {j : Nat} (h : S = sumFrom 4294967295 (s.take j)) (hj : s.length ≤ j) : sumB s = 4294967295 - S := by
  rw [h, List.take_of_length_le hj]; rfl
theorem u32_not (S : Nat) (h : S < 4294967296) : bits .xor .u32 IntKind.u32.max (S : Int) = ((4294967295 - S : Nat) : Int) := by
  have h2 := u32_xor_nat 4294967295 S (by decide) h
  have h3 : 4294967295 ^^^ S = 4294967295 - S := by
    apply Nat.eq_of_testBit_eq
    intro i
    have e : 4294967295 - S = 2 ^ 32 - (S + 1) := by omega
    rw [e, Nat.testBit_two_pow_sub_succ (by omega), Nat.testBit_xor, show (4294967295 : Nat) = 2 ^ 32 - 1 from rfl, Nat.testBit_two_pow_sub_one]
    by_cases hi : i < 32
    · simp [hi]
    · have : S.testBit i = false := Nat.testBit_lt_two_pow (Nat.lt_of_lt_of_le h (Nat.pow_le_pow_right (show 0 < 2 by decide) (show 32 ≤ i by omega)))
      simp [hi, this]
  rw [← h3, ← h2]
  rfl
theorem take_next {s : List UInt8} {j : Nat} (h : j < s.length) : s.take (j + 1) = s.take j ++ [s[j]] := by
  rw [List.take_add_one, List.getElem?_eq_getElem h]; rfl
theorem byte_at {W : World} {A : Option Addr} {s : List UInt8} (hB : BytesAt W A s.length s) {j : Nat} (h : j < s.length) : ∃ g o, A = some ⟨g, o, none⟩ ∧ W.cell? ⟨g, o + j, none⟩ = some (.int .u8 (s[j].toNat : Nat)) := by
  obtain ⟨g, o, e, hc⟩ := hB (by omega)
  refine ⟨g, o, e, ?_⟩
  rw [hc j h]
  simp [List.getD_eq_getElem?_getD, List.getElem?_eq_getElem h]
set_option maxHeartbeats 2000000 in
theorem Sum_any {W : World} (hE : Env W) {A : Option Addr} {c : Nat} {s : List UInt8} (hB : BytesAt W A s.length s) (hm : s.length ≤ 140737488355328) :
    Calls Tryd.prog 10 #[.slice A s.length c] W fun e w' => e = .returned (.int .u32 (sumB s : Nat)) ∧ w' = W := by
  have HF := Lib.hid (fun n hn => fourOn_any hE n hn)
  clear hE
  go_enter Tryd.func10, Tryd.ntmps10
  go_wp2_with fail
  go_loopw [3, 8] (fun v i wr => ∃ (j S : Nat), v = .int .u32 (S : Nat) ∧ i = .int .i64 j ∧ j ≤ s.length ∧ wr = W ∧ Hid (S = sumFrom 4294967295 (s.take j))) (fun _ i _ => s.length - (RowKit.intOf i).toNat)
  case atStart => exact ⟨0, 4294967295, rfl, rfl, by omega, rfl, sum_start s⟩
  case round =>
    obtain ⟨j, S, rfl, rfl, hj, hw, HS⟩ := hrel
    have hw := hw.symm
    subst hw
    have hSl : S < 4294967296 := by rw [HS.out]; exact sumFrom_lt _ (by decide)
    by_cases hlt : j < s.length
    · have hl1 : (j : Int) < (s.length : Int) := by omega
      have hl0 : (0 : Int) ≤ (j : Int) := by omega
      obtain ⟨g, o, rfl, hcj⟩ := byte_at hB hlt
      have HT := Lib.hid (take_next hlt)
      generalize s[j] = x at *
      have hx := x.toNat_lt
      have hxw := u32_byte x
      have hxx := u32_xor_nat S x.toNat hSl (by omega)
      have hxl := xor_byte_lt hSl x
      have HF1 := Lib.hid (HF.out _ hxl)
      have HF2 := Lib.hid (HF.out _ (bitsS_lt (k := 4) hxl))
      have HBY := Lib.hid (byteS_four S x)
      clear hB hxl
      generalize bitsS 4 (bitsS 4 (S ^^^ x.toNat)) = S3 at *
      generalize bitsS 4 (S ^^^ x.toNat) = S2 at *
      generalize S ^^^ x.toNat = S1 at *
      go_wp2_with (go_at_call 21; go_must ((first | (with_reducible refine HF1.out.mono ?_) | (with_reducible refine HF2.out.mono ?_)); rintro e' wz ⟨rfl, hwz⟩; have hwz := hwz.symm; subst hwz))
      refine ⟨⟨j + 1, S3, rfl, by go_num, by omega, by first | rfl | trivial, ?_⟩, by simp [RowKit.intOf]; omega⟩
      show S3 = _
      rw [HT.out, sumFrom_append, ← HS.out, sumFrom_one, HBY.out]
    · have hl1 : ¬ (j : Int) < (s.length : Int) := by omega
      have hs := Lib.hid (sum_done HS.out (by omega))
      have hu := u32_not S hSl
      have hg : IntKind.u32.signed = false := by rfl
      go_wp2_with fail
      go_ret
      exact ⟨by rw [hs.out]; rfl, rfl⟩

end Go.Proofs.YtdnfijhclikkfaaDoor
