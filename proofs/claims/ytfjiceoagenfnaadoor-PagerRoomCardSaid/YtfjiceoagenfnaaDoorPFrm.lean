/- Layer frame's contracts, over layer sector's memory. -/
import Derived.Test.YtfjiceoagenfnaaDoorSDs4
import Derived.Test.YtfjiceoagenfnaaDoorFNum
import Derived.Lib.AppendZerosOnto
import Derived.Deep.Onto
set_option maxRecDepth 20000
namespace Go.Proofs.YtfjiceoagenfnaaDoor
open Go.RowKit Go.Lib
/-- The table that the sum goes by is there. -/
def Env (W : World) : Prop := (∀ i, i < 16 → W.cell? ⟨0, i, none⟩ = some (.int .u32 (byFour.getD i 0 : Nat))) ∧ 0 < W.heap.size
theorem Env.on {W W' : World} (h : Env W) (hb : Below W.heap.size W W') : Env W' :=
  ⟨fun i hi => (grew_of hb none).cell (h.1 i hi) (by simp), by have := hb.size; have := h.2; omega⟩
end Go.Proofs.YtfjiceoagenfnaaDoor
/- The sum: the program's, four bits at once, and the document's, bit by bit. -/
namespace Go.Proofs.YtfjiceoagenfnaaDoor
open Go.RowKit Go.Lib

theorem u32_byte (c : UInt8) : IntKind.u32.wrap ((c.toNat : Nat) : Int) = ((c.toNat : Nat) : Int) := by
  have := c.toNat_lt
  rw [IntKind.wrap_u32']; omega
set_option maxHeartbeats 1000000 in
theorem fourOn_any {W : World} (hE : Env W) (n : Nat) (hn : n < 4294967296) :
    Calls Tryd.prog 62 #[.int .u32 (n : Nat)] W fun e w' => e = .returned (.int .u32 (bitsS 4 n : Nat)) ∧ w' = W := by
  have hc := hE.1 (n % 16) (Nat.mod_lt _ (by decide))
  have ht := four_lt (n % 16) (Nat.mod_lt _ (by decide))
  rw [four_bits]
  generalize byFour.getD (n % 16) 0 = T at *
  have h1 : bits .and .u32 (n : Int) 15 = ((n % 16 : Nat) : Int) := by
    have := u32_and_nat n 15 hn (by decide)
    rw [show (n &&& 15) = n % 16 from Nat.and_two_pow_sub_one_eq_mod n 4] at this
    exact this
  have h2 : bits .xor .u32 ((n : Int) / 16) (T : Int) = ((n / 16 ^^^ T : Nat) : Int) := by
    have := u32_xor_nat (n / 16) T (by omega) ht
    rw [← this]
    congr 1
  have hm : n % 16 < 16 := Nat.mod_lt _ (by decide)
  generalize n % 16 = q at *
  go_enter Tryd.func62, Tryd.ntmps62
  go_wp2_with fail
  go_ret
  exact ⟨rfl, rfl⟩
theorem sum_start (s : List UInt8) : 4294967295 = sumFrom 4294967295 (s.take 0) := by rw [List.take_zero]; unfold sumFrom; rw [List.foldl_nil]
theorem byteS_four (S : Nat) (x : UInt8) : byteS S x = bitsS 4 (bitsS 4 (S ^^^ x.toNat)) := by unfold byteS; rw [eight_bits]
theorem sumFrom_one (S : Nat) (x : UInt8) : sumFrom S [x] = byteS S x := by unfold sumFrom; rw [List.foldl_cons, List.foldl_nil]
theorem sum_done {S : Nat} {s : List UInt8} {j : Nat} (h : S = sumFrom 4294967295 (s.take j)) (hj : s.length ≤ j) : sumB s = 4294967295 - S := by
  rw [h, List.take_of_length_le hj]; rfl
theorem u32_not (S : Nat) (h : S < 4294967296) : bits .xor .u32 IntKind.u32.max (S : Int) = ((4294967295 - S : Nat) : Int) := by
  have h2 := u32_xor_nat 4294967295 S (by decide) h
  have h3 : 4294967295 ^^^ S = 4294967295 - S := by
    apply Nat.eq_of_testBit_eq
    intro i
    have e : 4294967295 - S = 2 ^ 32 - (S + 1) := by omega
    rw [e, Nat.testBit_two_pow_sub_succ (by omega), Nat.testBit_xor, show (4294967295 : Nat) = 2 ^ 32 - 1 from rfl, Nat.testBit_two_pow_sub_one]
    by_cases hi : i < 32
    · simp [hi]
    · have : S.testBit i = false := Nat.testBit_lt_two_pow (Nat.lt_of_lt_of_le h (Nat.pow_le_pow_right (show 0 < 2 by decide) (show 32 ≤ i by omega)))
      simp [hi, this]
  rw [← h3, ← h2]
  rfl
theorem take_next {s : List UInt8} {j : Nat} (h : j < s.length) : s.take (j + 1) = s.take j ++ [s[j]] := by
  rw [List.take_add_one, List.getElem?_eq_getElem h]; rfl
theorem byte_at {W : World} {A : Option Addr} {s : List UInt8} (hB : BytesAt W A s.length s) {j : Nat} (h : j < s.length) : ∃ g o, A = some ⟨g, o, none⟩ ∧ W.cell? ⟨g, o + j, none⟩ = some (.int .u8 (s[j].toNat : Nat)) := by
  obtain ⟨g, o, e, hc⟩ := hB (by omega)
  refine ⟨g, o, e, ?_⟩
  rw [hc j h]
  simp [List.getD_eq_getElem?_getD, List.getElem?_eq_getElem h]
set_option maxHeartbeats 2000000 in
theorem Sum_any {W : World} (hE : Env W) {A : Option Addr} {c : Nat} {s : List UInt8} (hB : BytesAt W A s.length s) (hm : s.length ≤ 140737488355328) :
    Calls Tryd.prog 48 #[.slice A s.length c] W fun e w' => e = .returned (.int .u32 (sumB s : Nat)) ∧ w' = W := by
  have HF := Lib.hid (fun n hn => fourOn_any hE n hn)
  clear hE
  go_enter Tryd.func48, Tryd.ntmps48
  go_wp2_with fail
  go_loopw [3, 8] (fun v i wr => ∃ (j S : Nat), v = .int .u32 (S : Nat) ∧ i = .int .i64 j ∧ j ≤ s.length ∧ wr = W ∧ Hid (S = sumFrom 4294967295 (s.take j))) (fun _ i _ => s.length - (RowKit.intOf i).toNat)
  case atStart => exact ⟨0, 4294967295, rfl, rfl, by omega, rfl, sum_start s⟩
  case round =>
    obtain ⟨j, S, rfl, rfl, hj, hw, HS⟩ := hrel
    have hw := hw.symm
    subst hw
    have hSl : S < 4294967296 := by rw [HS.out]; exact sumFrom_lt _ (by decide)
    by_cases hlt : j < s.length
    · have hl1 : (j : Int) < (s.length : Int) := by omega
      have hl0 : (0 : Int) ≤ (j : Int) := by omega
      obtain ⟨g, o, rfl, hcj⟩ := byte_at hB hlt
      have HT := Lib.hid (take_next hlt)
      generalize s[j] = x at *
      have hx := x.toNat_lt
      have hxw := u32_byte x
      have hxx := u32_xor_nat S x.toNat hSl (by omega)
      have hxl := xor_byte_lt hSl x
      have HF1 := Lib.hid (HF.out _ hxl)
      have HF2 := Lib.hid (HF.out _ (bitsS_lt (k := 4) hxl))
      have HBY := Lib.hid (byteS_four S x)
      clear hB hxl
      generalize bitsS 4 (bitsS 4 (S ^^^ x.toNat)) = S3 at *
      generalize bitsS 4 (S ^^^ x.toNat) = S2 at *
      generalize S ^^^ x.toNat = S1 at *
      go_wp2_with (go_at_call 62; go_must ((first | (with_reducible refine HF1.out.mono ?_) | (with_reducible refine HF2.out.mono ?_)); rintro e' wz ⟨rfl, hwz⟩; have hwz := hwz.symm; subst hwz))
      refine ⟨⟨j + 1, S3, rfl, by go_num, by omega, by first | rfl | trivial, ?_⟩, by simp [RowKit.intOf]; omega⟩
      show S3 = _
      rw [HT.out, sumFrom_append, ← HS.out, sumFrom_one, HBY.out]
    · have hl1 : ¬ (j : Int) < (s.length : Int) := by omega
      have hs := Lib.hid (sum_done HS.out (by omega))
      have hu := u32_not S hSl
      have hg : IntKind.u32.signed = false := by rfl
      go_wp2_with fail
      go_ret
      exact ⟨by rw [hs.out]; rfl, rfl⟩

end Go.Proofs.YtfjiceoagenfnaaDoor

/- Layer frame's program: Clone, allNoughts, Num, PutNum. -/
namespace Go.Proofs.YtfjiceoagenfnaaDoor
open Go.RowKit Go.Lib

set_option maxHeartbeats 1000000 in
theorem CloneF_any {W : World} {A : Option Addr} {c : Nat} {s : List UInt8} (hB : BytesAt W A s.length s) (hn : A = none → c = 0) (hm : s.length ≤ 140737488355328) :
    Calls Tryd.prog 54 #[.slice A s.length c] W fun e w' => ∃ v, e = .returned v ∧ BRow W v s w' := by
  have q := fun w n n' c' => clone_nil w A n c n' c'
  have HN := Lib.hid hn
  have HY := Lib.hid (fun W' (hb : Below W.heap.size W W') => bytes_on hB (grew_of hb none) (fun _ _ => by simp))
  clear hB hn
  cases A with
  | none =>
    have hs : s = [] := by
      cases s with
      | nil => rfl
      | cons x t => obtain ⟨g, o, e, _⟩ := HY.out W (Below.refl _ _) (by simp); cases e
    subst hs
    have q1 : (none : Option Addr).isNone = true := rfl
    go_enter Tryd.func54, Tryd.ntmps54
    go_wp2_with fail
    go_ret
    exact ⟨_, rfl, BRow.none W⟩
  | some ad =>
    have q1 : (some ad).isNone = false := rfl
    go_enter Tryd.func54, Tryd.ntmps54
    go_wp2_with (at_builtin; go_must (refine append_by (BRow.made W W (Below.refl _ _)) s (some ad) c (HY.out _ ((Below.refl _ W).alloc (Nat.le_refl _) _)) (fun e => by cases e) (by simp; omega) rfl _ _ rfl rfl rfl ?_; rintro v8 w8 HR8; rw [List.nil_append] at HR8; have HR := Lib.hid HR8; clear HR8))
    go_ret
    exact ⟨_, rfl, HR.out⟩

theorem all_take {s : List UInt8} (h : ∀ j, j < s.length → s[j]? = some 0) : s.all (· == 0) = true := by
  rw [List.all_eq_true]
  intro x hx
  obtain ⟨j, hj, e⟩ := List.mem_iff_getElem.1 hx
  have := h j hj
  rw [List.getElem?_eq_getElem hj, e] at this
  injection this with this
  rw [this]; rfl
set_option maxHeartbeats 1000000 in
theorem noughts_any {W : World} {A : Option Addr} {c : Nat} {s : List UInt8} (hB : BytesAt W A s.length s) (hm : s.length ≤ 140737488355328) :
    Calls Tryd.prog 60 #[.slice A s.length c] W fun e w' => e = .returned (.bool (s.all (· == 0))) ∧ w' = W := by
  go_enter Tryd.func60, Tryd.ntmps60
  go_wp2_with fail
  go_loopw [7] (fun i wr => ∃ j : Nat, i = .int .i64 j ∧ j ≤ s.length ∧ wr = W ∧ Hid (∀ i, i < j → s[i]? = some 0)) (fun i _ => s.length - (RowKit.intOf i).toNat)
  case atStart => exact ⟨0, rfl, by omega, rfl, fun i hi => absurd hi (Nat.not_lt_zero _)⟩
  case round =>
    obtain ⟨j, rfl, hj, hw, HS⟩ := hrel
    have hw := hw.symm
    subst hw
    by_cases hlt : j < s.length
    · have hl1 : (j : Int) < (s.length : Int) := by omega
      have hl0 : (0 : Int) ≤ (j : Int) := by omega
      obtain ⟨g, o, rfl, hcj⟩ := byte_at hB hlt
      have HG := Lib.hid (List.getElem?_eq_getElem hlt)
      generalize s[j] = x at *
      clear hB
      by_cases hx : x = 0
      · subst hx
        have h0 : (((0 : UInt8).toNat : Nat) : Int) = 0 := rfl
        rw [h0] at hcj
        go_wp2_with fail
        refine ⟨⟨j + 1, by go_num, by omega, by first | rfl | trivial, fun i hi => ?_⟩, by simp [RowKit.intOf]; omega⟩
        rcases Nat.lt_or_ge i j with h | h
        · exact HS.out i h
        · obtain rfl : i = j := by omega
          exact HG.out
      · have hx1 : (((x.toNat : Nat) : Int) != 0) = true := by
          rw [bne_iff_ne]
          intro e
          exact hx (UInt8.toNat_inj.1 (by simpa using e))
        have HR : Hid (s.all (· == 0) = false) := by
          show _ = _
          rw [List.all_eq_false]
          refine ⟨x, List.mem_of_getElem? HG.out, by simpa using hx⟩
        clear hx
        go_wp2_with fail
        go_ret
        exact ⟨by rw [HR.out]; rfl, rfl⟩
    · have hl1 : ¬ (j : Int) < (s.length : Int) := by omega
      have HR := Lib.hid (all_take (s := s) fun i hi => HS.out i (by omega))
      go_wp2_with fail
      go_ret
      exact ⟨by rw [HR.out]; rfl, rfl⟩
end Go.Proofs.YtfjiceoagenfnaaDoor

/- Layer frame's program: Num and PutNum. -/
namespace Go.Proofs.YtfjiceoagenfnaaDoor
open Go.RowKit Go.Lib

theorem i64_or_nat (a b : Nat) (ha : a < 9223372036854775808) (hb : b < 9223372036854775808) : bits .or .i64 (a : Int) (b : Int) = ((a ||| b : Nat) : Int) := by
  have hx : a ||| b < 2 ^ 63 := Nat.or_lt_two_pow (by omega) (by omega)
  show IntKind.i64.wrap ((BitVec.ofInt 64 (a : Int) ||| BitVec.ofInt 64 (b : Int)).toNat : Int) = _
  rw [BitVec.toNat_or, ofInt_u64 a (by omega), ofInt_u64 b (by omega), IntKind.wrap_i64]
  omega
theorem or_byte (n : Nat) (x : UInt8) : n * 256 ||| x.toNat = n * 256 + x.toNat := by
  have := Nat.two_pow_add_eq_or_of_lt (i := 8) (b := x.toNat) x.toNat_lt n
  rw [Nat.mul_comm n 256]
  exact this.symm
theorem numFrom_snoc (n : Nat) (s : List UInt8) (x : UInt8) : numFrom n (s ++ [x]) = numFrom n s * 256 + x.toNat := by
  unfold numFrom; rw [List.foldl_append, List.foldl_cons, List.foldl_nil]
theorem pow_le {k : Nat} (h : k ≤ 6) : 256 ^ k ≤ 281474976710656 := Nat.le_trans (Nat.pow_le_pow_right (show 0 < 256 by decide) h) (by decide)

set_option maxHeartbeats 1000000 in
theorem num_bad {W : World} {A : Option Addr} {c n : Nat} (p k : Int) (h : k < 1 ∨ 7 < k ∨ p < 0) :
    Calls Tryd.prog 59 #[.slice A n c, .int .i64 p, .int .i64 k] W fun e w' => e = .returned (.tuple #[.int .i64 0, .int .i64 1]) ∧ w' = W := by
  by_cases h1 : k < 1
  · go_enter Tryd.func59, Tryd.ntmps59
    go_wp2_with fail
    refine bodyPost_ret (v := .tuple #[.int .i64 0, .int .i64 1]) ?_ rfl ⟨rfl, rfl⟩
    simp [results, Tryd.results59, go_sem]
  · by_cases h2 : 7 < k
    · go_enter Tryd.func59, Tryd.ntmps59
      go_wp2_with fail
      refine bodyPost_ret (v := .tuple #[.int .i64 0, .int .i64 1]) ?_ rfl ⟨rfl, rfl⟩
      simp [results, Tryd.results59, go_sem]
    · have h3 : p < 0 := by omega
      clear h
      go_enter Tryd.func59, Tryd.ntmps59
      go_wp2_with fail
      refine bodyPost_ret (v := .tuple #[.int .i64 0, .int .i64 1]) ?_ rfl ⟨rfl, rfl⟩
      simp [results, Tryd.results59, go_sem]
set_option maxHeartbeats 1000000 in
theorem num_short {W : World} {A : Option Addr} {c n : Nat} (p k : Int) (h1 : 1 ≤ k) (h2 : k ≤ 7) (h3 : 0 ≤ p) (hp : p ≤ 9223372036854775807) (hs : (n : Int) - p < k) (hm : n ≤ 140737488355328) :
    Calls Tryd.prog 59 #[.slice A n c, .int .i64 p, .int .i64 k] W fun e w' => e = .returned (.tuple #[.int .i64 0, .int .i64 14]) ∧ w' = W := by
  have hw : IntKind.i64.wrap ((n : Int) - p) = (n : Int) - p := IntWalk.i64_in _ (by omega)
  have g1 : ¬ k < 1 := by omega
  have g2 : ¬ 7 < k := by omega
  have g3 : ¬ p < 0 := by omega
  clear hp hm
  go_enter Tryd.func59, Tryd.ntmps59
  go_wp2_with fail
  refine bodyPost_ret (v := .tuple #[.int .i64 0, .int .i64 14]) ?_ rfl ⟨rfl, rfl⟩
  simp [results, Tryd.results59, go_sem]
set_option maxHeartbeats 2000000 in
theorem num_good {W : World} {A : Option Addr} {c : Nat} {s : List UInt8} (p k : Nat) (hB : BytesAt W A s.length s) (hc : s.length ≤ c) (_hcm : c ≤ 9223372036854775807) (h1 : 1 ≤ k) (h2 : k ≤ 7) (hs : p + k ≤ s.length) (hm : s.length ≤ 140737488355328) :
    Calls Tryd.prog 59 #[.slice A s.length c, .int .i64 (p : Nat), .int .i64 (k : Nat)] W fun e w' => e = .returned (.tuple #[.int .i64 (numL ((s.drop p).take k) : Nat), .int .i64 0]) ∧ w' = W := by
  have hr := run_range A s.length c p (p + k) (by omega) (by omega) hc
  rw [show p + k - p = k by omega, show ((p + k : Nat) : Int) = (p : Int) + (k : Int) by omega] at hr
  have hA := adv_bytes (c := c) hB (show p ≤ s.length by omega) hc
  have hT : BytesAt W (advA A c p) ((s.drop p).take k).length ((s.drop p).take k) := fun h0 => by
    have hl : ((s.drop p).take k).length = k := by simp; omega
    obtain ⟨g, o, e, hh⟩ := hA (by omega)
    refine ⟨g, o, e, fun i hi => ?_⟩
    rw [hh i (by omega), List.getD_eq_getElem?_getD, List.getD_eq_getElem?_getD, List.getElem?_take_of_lt (by omega)]
  have hl : ((s.drop p).take k).length = k := by simp; omega
  generalize (s.drop p).take k = t at *
  generalize advA A c p = B at *
  subst hl
  have hg1 : ¬ (t.length : Int) < 1 := by omega
  have hg2 : ¬ (7 : Int) < (t.length : Int) := by omega
  have hg3 : ¬ (p : Int) < 0 := by omega
  have hw1 : IntKind.i64.wrap ((s.length : Int) - (p : Int)) = (s.length : Int) - (p : Int) := IntWalk.i64_in _ (by omega)
  have hw2 : IntKind.i64.wrap ((p : Int) + (t.length : Int)) = (p : Int) + (t.length : Int) := IntWalk.i64_in _ (by omega)
  have hg4 : ¬ (s.length : Int) - (p : Int) < (t.length : Int) := by omega
  have HT := Lib.hid hT
  clear hA hB hT
  go_enter Tryd.func59, Tryd.ntmps59
  go_wp2_with fail
  go_loopw [8, 34] (fun v i wr => ∃ (j S : Nat), v = .int .i64 (S : Nat) ∧ i = .int .i64 j ∧ j ≤ t.length ∧ wr = W ∧ Hid (S = numFrom 0 (t.take j))) (fun _ i _ => t.length - (RowKit.intOf i).toNat)
  case atStart => exact ⟨0, 0, rfl, rfl, by omega, rfl, rfl⟩
  case round =>
    obtain ⟨j, S, rfl, rfl, hj, hw, HS⟩ := hrel
    have hw := hw.symm
    subst hw
    by_cases hlt : j < t.length
    · have hl1 : (j : Int) < (t.length : Int) := by omega
      have hl0 : (0 : Int) ≤ (j : Int) := by omega
      obtain ⟨g, o, rfl, hcj⟩ := byte_at HT.out hlt
      have HN := Lib.hid (take_next hlt)
      generalize t[j] = x at *
      have hS : S < 281474976710656 := by
        rw [HS.out]
        have := numL_lt (t.take j)
        have hjl : (t.take j).length = j := by simp; omega
        rw [hjl] at this
        exact Nat.lt_of_lt_of_le this (pow_le (by omega))
      have hx := x.toNat_lt
      have hor := i64_or_nat (S * 256) x.toNat (by omega) (by omega)
      rw [or_byte, show ((S * 256 : Nat) : Int) = (S : Int) * 256 by omega] at hor
      have hwx : IntKind.i64.wrap ((S : Int) * 256) = (S : Int) * 256 := IntWalk.i64_in _ (by omega)
      have hwy : IntKind.i64.wrap ((x.toNat : Nat) : Int) = ((x.toNat : Nat) : Int) := IntWalk.i64_in _ (by omega)
      clear hr
      go_wp2_with fail
      refine ⟨⟨j + 1, S * 256 + x.toNat, by simp, by go_num, by omega, by first | rfl | trivial, ?_⟩, by simp [RowKit.intOf]; omega⟩
      show _ = _
      rw [HN.out, numFrom_snoc, ← HS.out]
    · have hl1 : ¬ (j : Int) < (t.length : Int) := by omega
      have hv : Hid (numL t = S) := by
        show _ = _
        rw [HS.out, List.take_of_length_le (by omega)]; rfl
      go_wp2_with fail
      refine bodyPost_ret (v := .tuple #[.int .i64 (S : Nat), .int .i64 0]) ?_ rfl ⟨by rw [hv.out], rfl⟩
      simp [results, Tryd.results59, go_sem]
theorem nmV_le (s : List UInt8) (p k : Int) : nmV s p k ≤ 72057594037927935 := by
  unfold nmV
  split
  · rename_i h
    unfold nmE at h
    split at h
    · exact absurd h (by decide)
    · have := numL_lt ((s.drop p.toNat).take k.toNat)
      have h7 : ((s.drop p.toNat).take k.toNat).length ≤ 7 := by rw [List.length_take]; omega
      have h2 := Nat.pow_le_pow_right (show 0 < 256 by decide) h7
      have h3 : (256 : Nat) ^ 7 = 72057594037927936 := by decide
      omega
  · omega
/-- Num. -/
theorem Num_any {W : World} {A : Option Addr} {c : Nat} {s : List UInt8} (p k : Int) (hB : BytesAt W A s.length s) (hc : s.length ≤ c) (hcm : c ≤ 9223372036854775807) (hm : s.length ≤ 140737488355328) (hp : p ≤ 9223372036854775807) :
    Calls Tryd.prog 59 #[.slice A s.length c, .int .i64 p, .int .i64 k] W fun e w' => e = .returned (.tuple #[.int .i64 (nmV s p k : Nat), .int .i64 (nmE s p k)]) ∧ w' = W := by
  by_cases h1 : k < 1 ∨ 7 < k ∨ p < 0
  · have he : nmE s p k = 1 := by unfold nmE; rw [if_pos h1]; rfl
    have hv : nmV s p k = 0 := by unfold nmV; rw [if_neg (by rw [he]; decide)]
    rw [he, hv]
    exact num_bad p k h1
  · by_cases h2 : (s.length : Int) - p < k
    · have he : nmE s p k = 14 := by unfold nmE; rw [if_neg h1, if_pos h2]; rfl
      have hv : nmV s p k = 0 := by unfold nmV; rw [if_neg (by rw [he]; decide)]
      rw [he, hv]
      exact num_short p k (by omega) (by omega) (by omega) hp h2 hm
    · have he : nmE s p k = 0 := by unfold nmE; rw [if_neg h1, if_neg h2]
      have hv : nmV s p k = numL ((s.drop p.toNat).take k.toNat) := by unfold nmV; rw [if_pos he]
      rw [he, hv]
      have := num_good (A := A) (c := c) p.toNat k.toNat hB hc hcm (by omega) (by omega) (by omega) hm
      rwa [show ((p.toNat : Nat) : Int) = p by omega, show ((k.toNat : Nat) : Int) = k by omega] at this
end Go.Proofs.YtfjiceoagenfnaaDoor

/- Noughts appended to bytes of the call's own: append(b, make([]byte, m)...). -/
namespace Go.Proofs.YtfjiceoagenfnaaDoor
open Go.RowKit Go.Lib

theorem zeros_list (m : Nat) : (Builtin.zeroCells #[Value.int .u8 0] m).toList = List.replicate m (.int .u8 0) := by
  apply List.ext_getElem?
  intro i
  simp only [Builtin.zeroCells, List.size_toArray, List.length_cons, List.length_nil, Nat.zero_add, Nat.mul_one, Array.toList_map, Array.toList_range, List.getElem?_map, List.getElem?_replicate]
  by_cases h : i < m
  · simp [h, Nat.mod_one]
  · simp [h]
theorem zeros_byV (m : Nat) : byV (List.replicate m 0) = List.replicate m (.int .u8 0) := by simp [byV]
theorem run_zeros {W : World} {base g cap n m : Nat} {xs : List Value} (ty : TypeId) (h : W.ownsRow base 5 1 (.slice (some ⟨g, 0, none⟩) n cap) n xs) (hb : base ≤ W.heap.size) (hm : n + m ≤ 1000000) :
    ∃ v' w', (Builtin.append_ #[34, 3] ty #[.slice (some ⟨g, 0, none⟩) n cap, .int .i64 (m : Nat)]).run Tryd.prog W = .ok v' w' ∧ w'.ownsRow base 5 1 v' (n + m) (xs ++ List.replicate m (.int .u8 0)) ∧ W.grownBy w' (some g) := by
  obtain ⟨i, hi, hz0, hz1, hz2⟩ : ∃ i, Tryd.prog.info? 5 = some i ∧ i.zero = some (.int .u8 0) ∧ i.size = 1 ∧ i.bytes = 1 := by
    obtain ⟨i, h1, h2, h3, h4⟩ := info_parts infoB
    exact ⟨i, h1, h2, h3, h4⟩
  have ht := Tryd.underlying34
  have htn := Tryd.underlying3
  have hlen : (xs ++ List.replicate m (Value.int .u8 0)).length = (n + m) * 1 := by rw [List.length_append, h.1, List.length_replicate]; omega
  obtain ⟨hl, hn | ⟨g', cap', cur, e, hbg, hg, hnc, hcm, hcs, htake⟩⟩ := h
  · exact absurd hn.1 (by simp)
  · cases e
    have hw : IntKind.i64.wrap (m : Int) = m := by rw [IntKind.wrap_i64]; omega
    have hneg : ¬ ((m : Int) < 0) := by omega
    have h48i : ¬ (281474976710656 < (m : Int)) := by omega
    by_cases h0 : m = 0
    · subst h0
      have hw0 : IntKind.i64.wrap (0 : Int) = 0 := by rw [IntKind.wrap_i64]; omega
      refine ⟨.slice (some ⟨g, 0, none⟩) n cap, W, ?_, ⟨by simpa using hl, .inr ⟨g, cap, cur, rfl, hbg, hg, hnc, hcm, hcs, by simpa using htake⟩⟩, World.grownBy.refl W _⟩
      simp [Builtin.append_, run_underlying ht, run_underlying htn, sizeOf, typeInfo, hi, hz1, asInt, asIntOf, hw0, hnc, storeCells, Result.andThen]
    have hk : m ≠ 0 := h0
    have hrl : (List.replicate m (Value.int .u8 0)).length = m := List.length_replicate
    have hcur : cur.size = cap := by simpa using hcs
    by_cases hroom : n + m ≤ cap
    · have hst := run_storeCells_at Tryd.prog g n 5 (List.replicate m (.int .u8 0)) 0 cur W hg (by rw [hrl]; omega) (fun u hu => by rw [List.eq_of_mem_replicate hu]; rfl)
      simp only [Nat.add_zero] at hst
      refine ⟨.slice (some ⟨g, 0, none⟩) (n + m) cap, W.setRow g (cur.toList.take n ++ List.replicate m (Value.int .u8 0) ++ cur.toList.drop (n + (List.replicate m (Value.int .u8 0)).length)).toArray, ?_, ⟨hlen, .inr ⟨g, cap, _, rfl, hbg, setRow_heap W g cur _ 5 _ hg, hroom, hcm, ?_, ?_⟩⟩, ⟨rfl, rfl, rfl, by simp, fun k _ hk => setRow_other W g k _ (fun e => hk (by rw [e]))⟩⟩
      · simp [Builtin.append_, run_underlying ht, run_underlying htn, sizeOf, typeInfo, zeroValue, hi, hz0, hz1, hz2, asInt, asIntOf, hw, hneg, h48i, hk, hroom, Addr.add_lit]
        rw [show (Value.int .u8 0).cells = #[Value.int .u8 0] from rfl, zeros_list, hst]
        simp [Result.andThen]
      · simp only [List.size_toArray, List.length_append, List.length_take, List.length_drop, Array.length_toList, hrl, Nat.mul_one]
        omega
      · have ht2 : cur.toList.take n = xs := by simpa using htake
        have hx : xs.length = n := by simpa using hl
        rw [ht2]
        have e2 : (n + m) * 1 = (xs ++ List.replicate m (Value.int .u8 0)).length := by rw [hlen]
        rw [e2]
        exact List.take_left
    · have hgr := grownCap_ge W (n + m) cap 5
      have hgm := grownCap_le_maxLen W (n + m) cap 5 (by unfold maxLen; omega)
      have hfc : (Builtin.firstCells 1 n (.slice (some ⟨g, 0, none⟩) n cap)).run Tryd.prog W.drew = .ok xs.toArray W.drew :=
        run_firstCells_some (P := Tryd.prog) W.drew 1 n ⟨g, 0, none⟩ n cap xs hl (fun j u hu => by
          have hj : j < xs.length := (List.getElem?_eq_some_iff.1 hu).1
          have hj2 : j < n := by omega
          show W.cell? _ = _
          rw [show (⟨g, 0, none⟩ : Addr).add j = ⟨g, j, none⟩ by (unfold Addr.add; simp; try omega), blk_cell hg j, ← Array.getElem?_toList]
          have := congrArg (·[j]?) htake
          simp only [List.getElem?_take, Nat.mul_one, hj2, if_true] at this
          rw [this, hu])
      have hnx : Builtin.nextslicecap (n + m) cap * i.bytes ≤ 281474976710656 := by
        rw [hz2, Nat.mul_one]
        have := nextslicecap_le (need := n + m) (old := cap) (by omega)
        omega
      refine ⟨_, _, run_append_grow_zeros W 34 3 ty 5 i (.int .u8 0) .i64 .i64 ht htn hi hz0 (some ⟨g, 0, none⟩) n cap xs (by rw [hz1]; exact hfc) m (by omega) (by omega) (by omega) (by omega) (by rw [hz2]; omega) hnx, ⟨hlen, .inr ⟨W.heap.size, _, _, rfl, hb, heap_alloc_new W.drew _, hgr, hgm, ?_, ?_⟩⟩, ⟨rfl, rfl, rfl, by simp, fun k hk _ => heap_alloc_old W.drew _ hk⟩⟩
      · simp only [Array.size_append, List.size_toArray, size_zeroCells]
        show _ + _ * 1 + _ * 1 = _
        omega
      · have hx : xs.length = n := by simpa using hl
        simp only [Array.toList_append, List.append_assoc]
        show List.take ((n + m) * 1) (xs ++ ((Builtin.zeroCells #[Value.int .u8 0] m).toList ++ _)) = _
        rw [zeros_list, ← List.append_assoc]
        have e2 : (n + m) * 1 = (xs ++ List.replicate m (Value.int .u8 0)).length := by rw [hlen]
        rw [e2]
        exact List.take_left
end Go.Proofs.YtfjiceoagenfnaaDoor

/- Layer frame's program: PutNum. -/
namespace Go.Proofs.YtfjiceoagenfnaaDoor
open Go.RowKit Go.Lib

theorem append_zeros {w0 W : World} {g c : Nat} {l : List UInt8} (HR : BRow w0 (.slice (some ⟨g, 0, none⟩) l.length c) l W) (m : Nat) (hb : l.length + m ≤ 1000000)
    {ops : Array Oper} {rest : List Oper} {o : Oper} {a : Act} {Q : Exit → Act → World → Prop} (hgd : o.guard = none) (s x : Operand)
    (ho : o.op = .call { callee := .builtin .append, args := #[s, x], argTypes := #[34, 3] })
    (hs : a.eval s = .slice (some ⟨g, 0, none⟩) l.length c) (hx : a.eval x = .int .i64 (m : Nat))
    (h : ∀ v' w', BRow w0 v' (l ++ List.replicate m 0) w' → wpList Tryd.prog ops Q rest (a.put o.dst v') w') :
    wpList Tryd.prog ops Q (o :: rest) a W := by
  obtain ⟨v', w', hr, hown, hgrow⟩ := run_zeros (W := W) (m := m) o.type HR.2 HR.1.size hb
  refine Lib.wpList_append_run W hgd s x 34 3 ho _ _ hs hx v' w' hr (h v' w' ⟨HR.1.grown hgrow HR.1.size (fun k hk => by cases hk; exact (HR.2.lt g rfl).1), ?_⟩)
  have e1 : byV (l ++ List.replicate m 0) = byV l ++ List.replicate m (.int .u8 0) := by simp [byV]
  rw [e1, List.length_append, List.length_replicate]
  exact hown
theorem putB_bad {s : List UInt8} {n k : Int} (h : n < 0 ∨ k < 1 ∨ 8 < k) : putB s n k = s := by
  unfold putB; rw [if_neg]; rintro ⟨h1, h2, h3, -⟩; omega
set_option maxHeartbeats 2000000 in
theorem putNum_bad {W : World} {A : Option Addr} {c : Nat} {s : List UInt8} (n k : Int) (hB : BytesAt W A s.length s) (hn : A = none → c = 0) (hm : s.length ≤ 140737488351232) (h : n < 0 ∨ k < 1 ∨ 8 < k) :
    Calls Tryd.prog 47 #[.slice A s.length c, .int .i64 n, .int .i64 k] W fun e w' => ∃ v, e = .returned v ∧ BRow W v (putB s n k) w' := by
  have HC := Lib.hid (CloneF_any hB hn (by omega))
  rw [putB_bad h]
  by_cases h1 : n < 0
  · go_enter Tryd.func47, Tryd.ntmps47
    go_wp2_with (go_at_call 54; go_must ((with_reducible refine HC.out.mono ?_); rintro e' w1 ⟨v1, rfl, hR1⟩; have HR1 := Lib.hid hR1; clear hR1))
    go_ret
    exact ⟨_, rfl, HR1.out⟩
  · by_cases h2 : k < 1
    · go_enter Tryd.func47, Tryd.ntmps47
      go_wp2_with (go_at_call 54; go_must ((with_reducible refine HC.out.mono ?_); rintro e' w1 ⟨v1, rfl, hR1⟩; have HR1 := Lib.hid hR1; clear hR1))
      go_ret
      exact ⟨_, rfl, HR1.out⟩
    · have h3 : 8 < k := by omega
      clear h
      go_enter Tryd.func47, Tryd.ntmps47
      go_wp2_with (go_at_call 54; go_must ((with_reducible refine HC.out.mono ?_); rintro e' w1 ⟨v1, rfl, hR1⟩; have HR1 := Lib.hid hR1; clear hR1))
      go_ret
      exact ⟨_, rfl, HR1.out⟩
theorem pow_two (k : Nat) : (256 : Nat) ^ k = 2 ^ (8 * k) := by rw [show (256 : Nat) = 2 ^ 8 from rfl, ← Nat.pow_mul]
set_option maxHeartbeats 2000000 in
theorem putNum_any {W : World} {A : Option Addr} {c : Nat} {s : List UInt8} (n k : Nat) (hB : BytesAt W A s.length s) (hn : A = none → c = 0) (hm : s.length ≤ 140737488351232) (hk1 : 1 ≤ k) (hk8 : k ≤ 8) (hnn : n < 9223372036854775808) :
    Calls Tryd.prog 47 #[.slice A s.length c, .int .i64 (n : Nat), .int .i64 (k : Nat)] W fun e w' => ∃ v, e = .returned v ∧ BRow W v (putB s n k) w' := by
  have HC := Lib.hid (CloneF_any hB hn (by omega))
  have g1 : ¬ (n : Int) < 0 := by omega
  have g2 : ¬ (k : Int) < 1 := by omega
  have g3 : ¬ (8 : Int) < (k : Int) := by omega
  have hwk : IntKind.i64.wrap (8 * (k : Int)) = 8 * (k : Int) := IntWalk.i64_in _ (by omega)
  clear hB hn
  have hd : (n : Int) / 2 ^ (8 * k) = ((n / 256 ^ k : Nat) : Int) := by rw [pow_two]; simp
  by_cases hz : n / 256 ^ k = 0
  · have hz1 : ((n : Int) / 2 ^ (8 * k) != 0) = false := by rw [hd, hz]; rfl
    have HP := Lib.hid (show putB s n k = s ++ putL n k by unfold putB; rw [if_pos ⟨by omega, by omega, by omega, by simpa using hz⟩]; simp)
    clear hd hz
    go_enter Tryd.func47, Tryd.ntmps47
    go_wp2_with (go_at_call 54; go_must ((with_reducible refine HC.out.mono ?_); rintro e' w1 ⟨v1, rfl, hR1⟩; have HR1 := Lib.hid hR1; clear hR1))
    go_loopw [7, 8] (fun v i wr => ∃ (j : Nat) (cs : List UInt8), i = .int .i64 ((j : Int) - 1) ∧ j ≤ k ∧ cs.length + j = s.length + k ∧ Hid (cs ++ putL n j = s ++ putL n k) ∧ Hid (BRow W v cs wr)) (fun _ i _ => (RowKit.intOf i + 1).toNat)
    case atStart => exact ⟨k, s, rfl, Nat.le_refl _, rfl, rfl, HR1.out⟩
    case round =>
      obtain ⟨j, cs, rfl, hj, hcl, HCS, HR⟩ := hrel
      cases j with
      | zero =>
        have hcs : cs = s ++ putL n k := by have := HCS.out; rwa [show putL n 0 = [] from rfl, List.append_nil] at this
        go_wp2_with fail
        go_ret
        refine ⟨_, rfl, ?_⟩
        rw [HP.out, ← hcs]
        exact HR.out
      | succ q =>
        have hq1 : (((q + 1 : Nat) : Int) - 1) = (q : Int) := by omega
        rw [hq1]
        have hw8 : IntKind.i64.wrap (8 * (q : Int)) = 8 * (q : Int) := IntWalk.i64_in _ (by omega)
        have hx : IntKind.u8.wrap ((n : Int) / 2 ^ (8 * q)) = (((UInt8.ofNat (n / 256 ^ q)).toNat : Nat) : Int) := by
          rw [UInt8.toNat_ofNat', show ((n : Int) / 2 ^ (8 * q)) = ((n / 256 ^ q : Nat) : Int) by rw [pow_two]; simp, IntKind.wrap_u8']
          omega
        have HX := Lib.hid (show putL n (q + 1) = UInt8.ofNat (n / 256 ^ q) :: putL n q from rfl)
        generalize UInt8.ofNat (n / 256 ^ q) = x at *
        clear hq1
        go_wp2_with (at_builtin; go_must (refine append_by (HR.out.on ((Below.refl _ _).alloc (Nat.le_refl _) _)) [x] _ 1 (bytes_lit (s := [x]) rfl) (fun e => by cases e) (by simp; omega) rfl _ _ rfl rfl rfl ?_; rintro v' w' HR'; have HR2 := Lib.hid HR'; clear HR'))
        refine ⟨⟨q, cs ++ [x], rfl, by omega, by rw [List.length_append]; simp only [List.length_cons, List.length_nil]; omega, ?_, HR2.out⟩, by simp [RowKit.intOf]⟩
        show _ = _
        rw [← HCS.out, HX.out, List.append_assoc]
        rfl
  · have hz1 : ((n : Int) / 2 ^ (8 * k) != 0) = true := by rw [hd, bne_iff_ne]; omega
    have HP := Lib.hid (show putB s n k = s by unfold putB; rw [if_neg]; rintro ⟨-, -, -, h4⟩; exact hz (by simpa using h4))
    clear hd hz
    go_enter Tryd.func47, Tryd.ntmps47
    go_wp2_with (go_at_call 54; go_must ((with_reducible refine HC.out.mono ?_); rintro e' w1 ⟨v1, rfl, hR1⟩; have HR1 := Lib.hid hR1; clear hR1))
    go_ret
    exact ⟨_, rfl, by rw [HP.out]; exact HR1.out⟩
theorem PutNum_any {W : World} {A : Option Addr} {c : Nat} {s : List UInt8} (n k : Int) (hB : BytesAt W A s.length s) (hn : A = none → c = 0) (hm : s.length ≤ 140737488351232) (hnn : n ≤ 9223372036854775807) :
    Calls Tryd.prog 47 #[.slice A s.length c, .int .i64 n, .int .i64 k] W fun e w' => ∃ v, e = .returned v ∧ BRow W v (putB s n k) w' := by
  by_cases h : n < 0 ∨ k < 1 ∨ 8 < k
  · exact putNum_bad n k hB hn hm h
  · have := putNum_any (A := A) (c := c) n.toNat k.toNat hB hn hm (by omega) (by omega) (by omega)
    rwa [show ((n.toNat : Nat) : Int) = n by omega, show ((k.toNat : Nat) : Int) = k by omega] at this
end Go.Proofs.YtfjiceoagenfnaaDoor

/- Layer frame's program: Seal and Open. -/
namespace Go.Proofs.YtfjiceoagenfnaaDoor
open Go.RowKit Go.Lib

theorem BRow.up {w w4 w6 : World} {v : Value} {l : List UInt8} (h : BRow w4 v l w6) (hb : Below w.heap.size w w4) : BRow w v l w6 :=
  ⟨hb.trans (h.1.mono hb.size), h.2.mono hb.size⟩
theorem BytesAt.on {W W' : World} {A : Option Addr} {n : Nat} {s : List UInt8} (h : BytesAt W A n s) (hb : Below W.heap.size W W') : BytesAt W' A n s := bytes_on h (grew_of hb none) (fun _ _ => by simp)
theorem nil_at (W : World) : BytesAt W none ([] : List UInt8).length [] := fun h => absurd h (by simp)
theorem BRow.some {w0 W : World} {v : Value} {l : List UInt8} (h : BRow w0 v l W) (hl : 0 < l.length) : ∃ g c, v = .slice (some ⟨g, 0, Option.none⟩) l.length c ∧ w0.heap.size ≤ g ∧ g < W.heap.size ∧ l.length ≤ c ∧ c ≤ maxLen := by
  rcases h.2.2 with ⟨rfl, h0⟩ | ⟨g, cap, cur, rfl, hg0, hg, hn, hm, _⟩
  · omega
  · exact ⟨g, cap, rfl, hg0, blk_lt hg, hn, hm⟩
theorem BRow.nil {w0 W : World} {A : Option Addr} {n c : Nat} {l : List UInt8} (h : BRow w0 (.slice A n c) l W) : A = Option.none → c = 0 := fun e => by
  subst e
  rcases h.2.2 with ⟨h1, -⟩ | ⟨g, cap, cur, h1, -⟩
  · simp only [Value.slice.injEq] at h1; exact h1.2.2
  · simp at h1
/-- PutNum of no bytes. -/
theorem PutNum_nil {W : World} (n k : Nat) (h1 : 1 ≤ k) (h8 : k ≤ 7) (h : n < 256 ^ k) :
    Calls Tryd.prog 47 #[.slice none 0 0, .int .i64 (n : Nat), .int .i64 (k : Nat)] W fun e w' => ∃ v, e = .returned v ∧ BRow W v (putL n k) w' := by
  have h7 : (256 : Nat) ^ k ≤ 256 ^ 7 := Nat.pow_le_pow_right (show 0 < 256 by decide) h8
  have h3 : (256 : Nat) ^ 7 = 72057594037927936 := by decide
  have := PutNum_any (A := none) (c := 0) (s := []) (n : Int) (k : Int) (nil_at W) (fun _ => rfl) (by simp) (by omega)
  rw [putB_nat [] n k h1 (by omega) h, List.nil_append] at this
  exact this
set_option maxHeartbeats 1000000 in
theorem seal_arg {W : World} {A : Option Addr} {c n : Nat} (k : Int) (h : k < 1 ∨ 255 < k) :
    Calls Tryd.prog 28 #[.int .i64 k, .slice A n c] W fun e w' => e = .returned (.tuple #[.slice none 0 0, .int .i64 1]) ∧ w' = W := by
  by_cases h1 : k < 1
  · go_enter Tryd.func28, Tryd.ntmps28
    go_wp2_with fail
    refine bodyPost_ret (v := .tuple #[.slice none 0 0, .int .i64 1]) ?_ rfl ⟨rfl, rfl⟩
    simp [results, Tryd.results28, go_sem]
  · have h2 : 255 < k := by omega
    clear h
    go_enter Tryd.func28, Tryd.ntmps28
    go_wp2_with fail
    refine bodyPost_ret (v := .tuple #[.slice none 0 0, .int .i64 1]) ?_ rfl ⟨rfl, rfl⟩
    simp [results, Tryd.results28, go_sem]
set_option maxHeartbeats 1000000 in
theorem seal_large {W : World} {A : Option Addr} {c n : Nat} (k : Int) (h1 : 1 ≤ k) (h2 : k ≤ 255) (hn : 505 < n) :
    Calls Tryd.prog 28 #[.int .i64 k, .slice A n c] W fun e w' => e = .returned (.tuple #[.slice none 0 0, .int .i64 12]) ∧ w' = W := by
  have g1 : ¬ k < 1 := by omega
  have g2 : ¬ 255 < k := by omega
  have g3 : (505 : Int) < (n : Int) := by omega
  clear h1 h2 hn
  go_enter Tryd.func28, Tryd.ntmps28
  go_wp2_with fail
  refine bodyPost_ret (v := .tuple #[.slice none 0 0, .int .i64 12]) ?_ rfl ⟨rfl, rfl⟩
  simp [results, Tryd.results28, go_sem]
set_option maxHeartbeats 4000000 in
theorem seal_good {W : World} (hE : Env W) {A : Option Addr} {c : Nat} {s : List UInt8} (k : Nat) (hB : BytesAt W A s.length s) (hn : A = none → c = 0) (h1 : 1 ≤ k) (h2 : k ≤ 255) (hs : s.length ≤ 505) :
    Calls Tryd.prog 28 #[.int .i64 (k : Nat), .slice A s.length c] W fun e w' => ∃ v, e = .returned (.tuple #[v, .int .i64 0]) ∧ BRow W v (sealL k s) w' := by
  have HE := Lib.hid hE
  have HY := Lib.hid (fun W' hb => hB.on (W' := W') hb)
  have HN := Lib.hid hn
  have g1 : ¬ (k : Int) < 1 := by omega
  have g2 : ¬ (255 : Int) < (k : Int) := by omega
  have g3 : ¬ (505 : Int) < (s.length : Int) := by omega
  have hz : IntKind.i64.wrap (505 - (s.length : Int)) = ((505 - s.length : Nat) : Int) := by rw [IntWalk.i64_in _ (by omega)]; omega
  have HP1 := Lib.hid (PutNum_nil (W := W) k 1 (by decide) (by decide) (by omega))
  clear hE hB hn
  go_enter Tryd.func28, Tryd.ntmps28
  go_wp2_with fail
  go_at_call 47
  refine HP1.out.mono ?_
  rintro e' w1 ⟨v1, rfl, hR1⟩
  obtain ⟨A1, c1, rfl, hY1, hb1, hl1, hm1⟩ := hR1.at
  have HP2 := Lib.hid (PutNum_any (W := w1) (c := c1) (s.length : Int) 2 hY1 (fun e => by
    subst e
    obtain ⟨g, o, e, _⟩ := hY1 (by rw [putL_len]; decide)
    cases e) (by rw [putL_len]; decide) (by omega))
  have HB1 := Lib.hid hR1.1
  have hq : putB (putL k 1) (s.length : Int) 2 = putL k 1 ++ putL s.length 2 := putB_nat _ _ 2 (by decide) (by decide) (by omega)
  rw [hq] at HP2
  clear hY1 hb1 hl1 hm1 hR1 hq
  go_wp2_with fail
  go_at_call 47
  refine HP2.out.mono ?_
  rintro e' w2 ⟨v2, rfl, hR2⟩
  have HR2 := Lib.hid (hR2.up HB1.out)
  have hl2 : (putL k 1 ++ putL s.length 2).length = 3 := by rw [List.length_append, putL_len, putL_len]
  clear hR2
  have HPL : Hid (restL k s = putL k 1 ++ putL s.length 2 ++ s ++ List.replicate (505 - s.length) 0) := rfl
  have hr4 : (restL k s).length = 508 := restL_len hs
  generalize putL k 1 ++ putL s.length 2 = l2 at *
  obtain ⟨l3, hl3⟩ : ∃ l3, l3 = l2 ++ s := ⟨_, rfl⟩
  have hn3 : l3.length = 3 + s.length := by rw [hl3, List.length_append, hl2]
  have HL3 := Lib.hid hl3
  have HN2 := Lib.hid hl2
  have HN3 := Lib.hid hn3
  rw [← hl3] at HPL
  have HZ3 := Lib.hid (show l3.length + (505 - s.length) ≤ 1000000 by omega)
  have HSL : Hid (sealL k s = putL (sumB (restL k s)) 4 ++ restL k s) := rfl
  have HSB := Lib.hid (sumB_lt (restL k s))
  generalize restL k s = r at *
  have HR4 := Lib.hid hr4
  have hcv : IntKind.i64.wrap ((sumB r : Nat) : Int) = ((sumB r : Nat) : Int) := IntWalk.i64_in _ (by have := HSB.out; omega)
  clear hl3 hn3 hl2 hr4
  go_wp2_with (at_builtin; go_must (first
    | (refine append_by HR2.out s A c (HY.out _ HR2.out.1) HN.out (by have := HN2.out; omega) rfl _ _ rfl rfl rfl ?_; rintro v3 w3 hR3; rw [← HL3.out] at hR3; obtain ⟨g3, c3, rfl, -, -, -, -⟩ := hR3.some (by have := HN3.out; omega); have HR3 := Lib.hid hR3; clear hR3)
    | (refine append_zeros HR3.out (505 - s.length) HZ3.out rfl _ _ rfl rfl rfl ?_; rintro v4 w4 hR4; rw [← HPL.out] at hR4; obtain ⟨A4, c4, rfl, hY4, hb4, hl4, hm4⟩ := hR4.at; have HR5 := Lib.hid hR4; have HY4 := Lib.hid hY4; clear hR4 hY4 hb4 hl4 hm4)))
  have HS := Lib.hid (Sum_any (c := c4) (HE.out.on HR5.out.1) HY4.out (by have := HR4.out; omega))
  have HP4 := Lib.hid (PutNum_nil (W := w4) (sumB r) 4 (by decide) (by decide) (by have := HSB.out; simpa using this))
  have HA4 : Hid (A4 = none → c4 = 0) := fun e => by
    subst e
    obtain ⟨g, o, e, _⟩ := HY4.out (by have := HR4.out; omega)
    cases e
  generalize sumB r = S at *
  go_at_call 48
  refine HS.out.mono ?_
  rintro e' wz ⟨rfl, hwz⟩
  have hwz := hwz.symm
  subst hwz
  go_wp2_with fail
  go_at_call 47
  refine HP4.out.mono ?_
  rintro e' w5 ⟨v5, rfl, hR5⟩
  have HP5 := Lib.hid hR5
  have HY5 := Lib.hid (HY4.out.on hR5.1)
  have HN5 := Lib.hid (show (putL S 4).length + r.length ≤ 140737488355328 by rw [putL_len]; have := HR4.out; omega)
  clear hR5
  go_wp2_with (at_builtin; go_must (refine append_by HP5.out r A4 c4 HY5.out HA4.out HN5.out rfl _ _ rfl rfl rfl ?_; rintro v6 w6 hR6; rw [← HSL.out] at hR6; have HR6 := Lib.hid hR6; clear hR6))
  refine bodyPost_ret (v := .tuple #[v6, .int .i64 0]) ?_ rfl ⟨v6, rfl, HR6.out.up HR5.out.1⟩
  simp [results, Tryd.results28, go_sem]
theorem Seal_any {W : World} (hE : Env W) {A : Option Addr} {c : Nat} {s : List UInt8} (k : Int) (hB : BytesAt W A s.length s) (hn : A = none → c = 0) :
    Calls Tryd.prog 28 #[.int .i64 k, .slice A s.length c] W fun e w' => ∃ v, e = .returned (.tuple #[v, .int .i64 (slE k s)]) ∧ BRow W v (slV k s) w' := by
  by_cases h1 : k < 1 ∨ 255 < k
  · have he : slE k s = 1 := by unfold slE; rw [if_pos h1]; rfl
    have hv : slV k s = [] := by unfold slV; rw [if_neg (by rw [he]; decide)]
    rw [he, hv]
    exact (seal_arg k h1).mono fun e w' ⟨h, hw⟩ => ⟨_, h, hw ▸ BRow.none W⟩
  · by_cases h2 : 505 < s.length
    · have he : slE k s = 12 := by unfold slE; rw [if_neg h1, if_pos h2]; rfl
      have hv : slV k s = [] := by unfold slV; rw [if_neg (by rw [he]; decide)]
      rw [he, hv]
      exact (seal_large k (by omega) (by omega) h2).mono fun e w' ⟨h, hw⟩ => ⟨_, h, hw ▸ BRow.none W⟩
    · have he : slE k s = 0 := by unfold slE; rw [if_neg h1, if_neg h2]
      have hv : slV k s = sealL k.toNat s := by unfold slV; rw [if_pos he]
      rw [he, hv]
      have := seal_good hE (A := A) (c := c) k.toNat hB hn (by omega) (by omega) (by omega)
      rwa [show ((k.toNat : Nat) : Int) = k by omega] at this
end Go.Proofs.YtfjiceoagenfnaaDoor

/- Layer frame's program: Open. -/
namespace Go.Proofs.YtfjiceoagenfnaaDoor
open Go.RowKit Go.Lib

theorem num_at {W : World} {A : Option Addr} {c : Nat} {s : List UInt8} (pi ki : Int) (p k : Nat) (ep : pi = (p : Int)) (ek : ki = (k : Int)) (hB : BytesAt W A s.length s) (hc : s.length ≤ c) (hcm : c ≤ 9223372036854775807) (h1 : 1 ≤ k) (h2 : k ≤ 7) (hs : p + k ≤ s.length) (hm : s.length ≤ 140737488355328) :
    Calls Tryd.prog 59 #[.slice A s.length c, .int .i64 pi, .int .i64 ki] W fun e w' => e = .returned (.tuple #[.int .i64 (numL ((s.drop p).take k) : Nat), .int .i64 0]) ∧ w' = W := by
  subst ep ek; exact num_good p k hB hc hcm h1 h2 hs hm
theorem run_from_at (pi : Int) (A : Option Addr) (n c p : Nat) (ep : pi = (p : Int)) (hp : p ≤ n) (w : World) :
    (Instr.slice 34 (.slice A n c) (some (.int .i64 pi)) none none).run Tryd.prog w = .ok (.slice (advA A c p) (n - p) (c - p)) w := by
  subst ep; exact run_from A n c p hp w
theorem run_range_at (pi mi : Int) (A : Option Addr) (n c p m : Nat) (ep : pi = (p : Int)) (em : mi = (m : Int)) (hp : p ≤ m) (hm : m ≤ n) (hn : n ≤ c) (w : World) :
    (Instr.slice 34 (.slice A n c) (some (.int .i64 pi)) (some (.int .i64 mi)) none).run Tryd.prog w = .ok (.slice (advA A c p) (m - p) (c - p)) w := by
  subst ep em; exact run_range A n c p m hp hm hn w
set_option maxHeartbeats 1000000 in
theorem open_short {W : World} {A : Option Addr} {c n : Nat} (h : n ≠ 512) :
    Calls Tryd.prog 39 #[.slice A n c] W fun e w' => e = .returned (.tuple #[.int .i64 0, .slice none 0 0, .int .i64 14]) ∧ w' = W := by
  have h1 : ((n : Int) != 512) = true := by rw [bne_iff_ne]; omega
  clear h
  go_enter Tryd.func39, Tryd.ntmps39
  go_wp2_with fail
  refine bodyPost_ret (v := .tuple #[.int .i64 0, .slice none 0 0, .int .i64 14]) ?_ rfl ⟨rfl, rfl⟩
  simp [results, Tryd.results39, go_sem]
set_option maxHeartbeats 4000000 in
theorem open_sum {W : World} (hE : Env W) {A : Option Addr} {c : Nat} {s : List UInt8} (hB : BytesAt W A s.length s) (hc : s.length ≤ c) (hcm : c ≤ 9223372036854775807) (h512 : s.length = 512) (h : numL (s.take 4) ≠ sumB (s.drop 4)) :
    Calls Tryd.prog 39 #[.slice A s.length c] W fun e w' => e = .returned (.tuple #[.int .i64 0, .slice none 0 0, .int .i64 13]) ∧ w' = W := by
  have hne : (((numL (s.take 4) : Nat) : Int) != ((sumB (s.drop 4) : Nat) : Int)) = true := by rw [bne_iff_ne]; omega
  have hn1 := num_at (A := A) (c := c) 0 4 0 4 rfl rfl hB hc hcm (by decide) (by decide) (by omega) (by omega)
  have hn2 := num_at (A := A) (c := c) 4 1 4 1 rfl rfl hB hc hcm (by decide) (by decide) (by omega) (by omega)
  have hn3 := num_at (A := A) (c := c) 5 2 5 2 rfl rfl hB hc hcm (by decide) (by decide) (by omega) (by omega)
  have hr4 := run_from_at 4 A s.length c 4 rfl (by omega)
  have hY4 := adv_bytes (c := c) hB (show 4 ≤ s.length by omega) hc
  have hd4 : (s.drop 4).length = 508 := by rw [List.length_drop]; omega
  have hS := Sum_any (A := advA A c 4) (c := c - 4) hE (s := s.drop 4) (by rw [hd4]; rw [show s.length - 4 = 508 by omega] at hY4; exact hY4) (by omega)
  rw [hd4] at hS
  rw [show s.length - 4 = 508 by omega] at hr4
  have hcv : IntKind.i64.wrap ((sumB (s.drop 4) : Nat) : Int) = ((sumB (s.drop 4) : Nat) : Int) := IntWalk.i64_in _ (by have := sumB_lt (s.drop 4); omega)
  rw [List.drop_zero] at hn1
  rw [h512] at hn1 hn2 hn3 hr4 ⊢
  have H1 := Lib.hid hn1
  have H2 := Lib.hid hn2
  have H3 := Lib.hid hn3
  have HS := Lib.hid hS
  have HB := Lib.hid hB
  have HE := Lib.hid hE
  clear hn1 hn2 hn3 hS hB hE hY4 h hd4 hcm
  generalize numL (s.take 4) = S1 at *
  generalize sumB (s.drop 4) = S2 at *
  go_enter Tryd.func39, Tryd.ntmps39
  go_wp2_with (first
    | (go_at_call 59; (with_reducible refine H1.out.mono ?_); rintro e' wz ⟨rfl, hwz⟩; have hwz := hwz.symm; subst hwz)
    | (go_at_call 59; (with_reducible refine H2.out.mono ?_); rintro e' wz ⟨rfl, hwz⟩; have hwz := hwz.symm; subst hwz)
    | (go_at_call 59; (with_reducible refine H3.out.mono ?_); rintro e' wz ⟨rfl, hwz⟩; have hwz := hwz.symm; subst hwz)
    | (go_at_call 48; (with_reducible refine HS.out.mono ?_); rintro e' wz ⟨rfl, hwz⟩; have hwz := hwz.symm; subst hwz))
  refine bodyPost_ret (v := .tuple #[.int .i64 0, .slice none 0 0, .int .i64 13]) ?_ rfl ⟨rfl, rfl⟩
  simp [results, Tryd.results39, go_sem]
set_option maxHeartbeats 4000000 in
theorem open_kind {W : World} (hE : Env W) {A : Option Addr} {c : Nat} {s : List UInt8} (hB : BytesAt W A s.length s) (hc : s.length ≤ c) (hcm : c ≤ 9223372036854775807) (h512 : s.length = 512) (h : numL (s.take 4) = sumB (s.drop 4)) (hk : numL ((s.drop 4).take 1) = 0 ∨ 505 < numL ((s.drop 5).take 2)) :
    Calls Tryd.prog 39 #[.slice A s.length c] W fun e w' => e = .returned (.tuple #[.int .i64 0, .slice none 0 0, .int .i64 11]) ∧ w' = W := by
  have hn1 := num_at (A := A) (c := c) 0 4 0 4 rfl rfl hB hc hcm (by decide) (by decide) (by omega) (by omega)
  have hn2 := num_at (A := A) (c := c) 4 1 4 1 rfl rfl hB hc hcm (by decide) (by decide) (by omega) (by omega)
  have hn3 := num_at (A := A) (c := c) 5 2 5 2 rfl rfl hB hc hcm (by decide) (by decide) (by omega) (by omega)
  have hr4 := run_from_at 4 A s.length c 4 rfl (by omega)
  have hY4 := adv_bytes (c := c) hB (show 4 ≤ s.length by omega) hc
  have hd4 : (s.drop 4).length = 508 := by rw [List.length_drop]; omega
  have hS := Sum_any (A := advA A c 4) (c := c - 4) hE (s := s.drop 4) (by rw [hd4]; rw [show s.length - 4 = 508 by omega] at hY4; exact hY4) (by omega)
  rw [hd4] at hS
  rw [show s.length - 4 = 508 by omega] at hr4
  have hcv : IntKind.i64.wrap ((sumB (s.drop 4) : Nat) : Int) = ((sumB (s.drop 4) : Nat) : Int) := IntWalk.i64_in _ (by have := sumB_lt (s.drop 4); omega)
  rw [List.drop_zero] at hn1
  rw [h512] at hn1 hn2 hn3 hr4 ⊢
  have H1 := Lib.hid hn1
  have H2 := Lib.hid hn2
  have H3 := Lib.hid hn3
  have HS := Lib.hid hS
  have HB := Lib.hid hB
  have HE := Lib.hid hE
  rw [h] at H1
  clear hn1 hn2 hn3 hS hB hE hY4 h hd4 hcm
  generalize sumB (s.drop 4) = S2 at *
  have hne : ((S2 : Int) != (S2 : Int)) = false := by simp
  generalize numL ((s.drop 4).take 1) = K at *
  generalize numL ((s.drop 5).take 2) = L at *
  by_cases h0 : K = 0
  · subst h0
    clear hk
    go_enter Tryd.func39, Tryd.ntmps39
    go_wp2_with (first
      | (go_at_call 59; (with_reducible refine H1.out.mono ?_); rintro e' wz ⟨rfl, hwz⟩; have hwz := hwz.symm; subst hwz)
      | (go_at_call 59; (with_reducible refine H2.out.mono ?_); rintro e' wz ⟨rfl, hwz⟩; have hwz := hwz.symm; subst hwz)
      | (go_at_call 59; (with_reducible refine H3.out.mono ?_); rintro e' wz ⟨rfl, hwz⟩; have hwz := hwz.symm; subst hwz)
      | (go_at_call 48; (with_reducible refine HS.out.mono ?_); rintro e' wz ⟨rfl, hwz⟩; have hwz := hwz.symm; subst hwz))
    refine bodyPost_ret (v := .tuple #[.int .i64 0, .slice none 0 0, .int .i64 11]) ?_ rfl ⟨rfl, rfl⟩
    simp [results, Tryd.results39, go_sem]
  · have hK : ((K : Int) == 0) = false := by rw [beq_eq_false_iff_ne]; omega
    have hL : (505 : Int) < (L : Int) := by omega
    clear hk h0
    go_enter Tryd.func39, Tryd.ntmps39
    go_wp2_with (first
      | (go_at_call 59; (with_reducible refine H1.out.mono ?_); rintro e' wz ⟨rfl, hwz⟩; have hwz := hwz.symm; subst hwz)
      | (go_at_call 59; (with_reducible refine H2.out.mono ?_); rintro e' wz ⟨rfl, hwz⟩; have hwz := hwz.symm; subst hwz)
      | (go_at_call 59; (with_reducible refine H3.out.mono ?_); rintro e' wz ⟨rfl, hwz⟩; have hwz := hwz.symm; subst hwz)
      | (go_at_call 48; (with_reducible refine HS.out.mono ?_); rintro e' wz ⟨rfl, hwz⟩; have hwz := hwz.symm; subst hwz))
    refine bodyPost_ret (v := .tuple #[.int .i64 0, .slice none 0 0, .int .i64 11]) ?_ rfl ⟨rfl, rfl⟩
    simp [results, Tryd.results39, go_sem]
set_option maxHeartbeats 4000000 in
theorem open_rest {W : World} (hE : Env W) {A : Option Addr} {c : Nat} {s : List UInt8} (hB : BytesAt W A s.length s) (hc : s.length ≤ c) (hcm : c ≤ 9223372036854775807) (h512 : s.length = 512) (h : numL (s.take 4) = sumB (s.drop 4)) (hk : numL ((s.drop 4).take 1) ≠ 0) (hl : numL ((s.drop 5).take 2) ≤ 505) :
    Calls Tryd.prog 39 #[.slice A s.length c] W fun e w' => if (s.drop (7 + numL ((s.drop 5).take 2))).all (· == 0) = true then ∃ v, e = .returned (.tuple #[.int .i64 (numL ((s.drop 4).take 1) : Nat), v, .int .i64 0]) ∧ BRow W v ((s.drop 7).take (numL ((s.drop 5).take 2))) w'
      else e = .returned (.tuple #[.int .i64 0, .slice none 0 0, .int .i64 11]) ∧ w' = W := by
  have hn1 := num_at (A := A) (c := c) 0 4 0 4 rfl rfl hB hc hcm (by decide) (by decide) (by omega) (by omega)
  have hn2 := num_at (A := A) (c := c) 4 1 4 1 rfl rfl hB hc hcm (by decide) (by decide) (by omega) (by omega)
  have hn3 := num_at (A := A) (c := c) 5 2 5 2 rfl rfl hB hc hcm (by decide) (by decide) (by omega) (by omega)
  have hr4 := run_from_at 4 A s.length c 4 rfl (by omega)
  have hY4 := adv_bytes (c := c) hB (show 4 ≤ s.length by omega) hc
  have hd4 : (s.drop 4).length = 508 := by rw [List.length_drop]; omega
  have hS := Sum_any (A := advA A c 4) (c := c - 4) hE (s := s.drop 4) (by rw [hd4]; rw [show s.length - 4 = 508 by omega] at hY4; exact hY4) (by omega)
  rw [hd4] at hS
  rw [show s.length - 4 = 508 by omega] at hr4
  have hcv : IntKind.i64.wrap ((sumB (s.drop 4) : Nat) : Int) = ((sumB (s.drop 4) : Nat) : Int) := IntWalk.i64_in _ (by have := sumB_lt (s.drop 4); omega)
  rw [List.drop_zero] at hn1
  rw [h512] at hn1 hn2 hn3 hr4 ⊢
  have H1 := Lib.hid hn1
  have H2 := Lib.hid hn2
  have H3 := Lib.hid hn3
  have HS := Lib.hid hS
  have HB := Lib.hid hB
  have HE := Lib.hid hE
  rw [h] at H1
  generalize hLL : numL ((s.drop 5).take 2) = L at *
  have hr7 := run_from_at (7 + (L : Int)) A s.length c (7 + L) (by omega) (by omega)
  have hY7 := adv_bytes (c := c) hB (show 7 + L ≤ s.length by omega) hc
  have hdl : (s.drop (7 + L)).length = 512 - (7 + L) := by rw [List.length_drop]; omega
  have hno := noughts_any (A := advA A c (7 + L)) (c := c - (7 + L)) (s := s.drop (7 + L)) (by rw [hdl, ← h512]; exact hY7) (by omega)
  have hr9 := run_range_at 7 (7 + (L : Int)) A s.length c 7 (7 + L) rfl (by omega) (by omega) (by omega) hc
  have hw7 : IntKind.i64.wrap (7 + (L : Int)) = 7 + (L : Int) := IntWalk.i64_in _ (by omega)
  rw [hdl] at hno
  rw [h512] at hr7 hr9
  rw [show 7 + L - 7 = L by omega] at hr9
  have hY9 : BytesAt W (advA A c 7) ((s.drop 7).take L).length ((s.drop 7).take L) := fun h0 => by
    have hA := adv_bytes (c := c) hB (show 7 ≤ s.length by omega) hc
    have hlt : ((s.drop 7).take L).length = L := by simp; omega
    obtain ⟨g, o, e, hh⟩ := hA (by omega)
    refine ⟨g, o, e, fun i hi => ?_⟩
    rw [hh i (by omega), List.getD_eq_getElem?_getD, List.getD_eq_getElem?_getD, List.getElem?_take_of_lt (by omega)]
  have hlt : ((s.drop 7).take L).length = L := by simp; omega
  have hA9 : advA A c 7 = none → c - 7 = 0 := fun e => by
    have hA := adv_bytes (c := c) hB (show 7 ≤ s.length by omega) hc
    obtain ⟨g, o, e2, hh⟩ := hA (by omega)
    rw [e] at e2; cases e2
  have hcl := CloneF_any (A := advA A c 7) (c := c - 7) hY9 hA9 (by omega)
  rw [hlt] at hcl
  have HNO := Lib.hid hno
  have HCL := Lib.hid hcl
  clear hn1 hn2 hn3 hS hB hE hY4 h hd4 hcm hno hcl hA9 hlt hY9 hdl hY7 hLL
  generalize sumB (s.drop 4) = S2 at *
  have hne : ((S2 : Int) != (S2 : Int)) = false := by simp
  generalize numL ((s.drop 4).take 1) = K at *
  have hK : ((K : Int) == 0) = false := by rw [beq_eq_false_iff_ne]; omega
  have hL : ¬ (505 : Int) < (L : Int) := by omega
  clear hk
  generalize advA A c 4 = A4 at *
  generalize advA A c 7 = A7 at *
  generalize advA A c (7 + L) = A9 at *
  generalize (s.drop 7).take L = d at *
  cases hq : (s.drop (7 + L)).all (· == 0) with
  | false =>
    rw [hq] at HNO
    suffices h : Calls Tryd.prog 39 #[.slice A 512 c] W fun e w' => e = .returned (.tuple #[.int .i64 0, .slice none 0 0, .int .i64 11]) ∧ w' = W from h.mono fun e w' hh => by simpa using hh
    clear hq
    go_enter Tryd.func39, Tryd.ntmps39
    go_wp2_with (first
      | (go_at_call 59; (with_reducible refine H1.out.mono ?_); rintro e' wz ⟨rfl, hwz⟩; have hwz := hwz.symm; subst hwz)
      | (go_at_call 59; (with_reducible refine H2.out.mono ?_); rintro e' wz ⟨rfl, hwz⟩; have hwz := hwz.symm; subst hwz)
      | (go_at_call 59; (with_reducible refine H3.out.mono ?_); rintro e' wz ⟨rfl, hwz⟩; have hwz := hwz.symm; subst hwz)
      | (go_at_call 48; (with_reducible refine HS.out.mono ?_); rintro e' wz ⟨rfl, hwz⟩; have hwz := hwz.symm; subst hwz)
      | (go_at_call 60; (with_reducible refine HNO.out.mono ?_); rintro e' wz ⟨rfl, hwz⟩; have hwz := hwz.symm; subst hwz))
    refine bodyPost_ret (v := .tuple #[.int .i64 0, .slice none 0 0, .int .i64 11]) ?_ rfl ⟨rfl, rfl⟩
    simp [results, Tryd.results39, go_sem]
  | true =>
    rw [hq] at HNO
    suffices h : Calls Tryd.prog 39 #[.slice A 512 c] W fun e w' => ∃ v, e = .returned (.tuple #[.int .i64 (K : Nat), v, .int .i64 0]) ∧ BRow W v d w' from h.mono fun e w' hh => by simpa using hh
    clear hq
    go_enter Tryd.func39, Tryd.ntmps39
    go_wp2_with (first
      | (go_at_call 59; (with_reducible refine H1.out.mono ?_); rintro e' wz ⟨rfl, hwz⟩; have hwz := hwz.symm; subst hwz)
      | (go_at_call 59; (with_reducible refine H2.out.mono ?_); rintro e' wz ⟨rfl, hwz⟩; have hwz := hwz.symm; subst hwz)
      | (go_at_call 59; (with_reducible refine H3.out.mono ?_); rintro e' wz ⟨rfl, hwz⟩; have hwz := hwz.symm; subst hwz)
      | (go_at_call 48; (with_reducible refine HS.out.mono ?_); rintro e' wz ⟨rfl, hwz⟩; have hwz := hwz.symm; subst hwz)
      | (go_at_call 60; (with_reducible refine HNO.out.mono ?_); rintro e' wz ⟨rfl, hwz⟩; have hwz := hwz.symm; subst hwz)
      | (go_at_call 54; (with_reducible refine HCL.out.mono ?_); rintro e' w1 ⟨v1, rfl, hR1⟩; have HR1 := Lib.hid hR1; clear hR1))
    refine bodyPost_ret (v := .tuple #[.int .i64 (K : Nat), v1, .int .i64 0]) ?_ rfl ⟨v1, rfl, HR1.out⟩
    simp [results, Tryd.results39, go_sem]
theorem Open_any {W : World} (hE : Env W) {A : Option Addr} {c : Nat} {s : List UInt8} (hB : BytesAt W A s.length s) (hc : s.length ≤ c) (hcm : c ≤ 9223372036854775807) :
    Calls Tryd.prog 39 #[.slice A s.length c] W fun e w' => ∃ v, e = .returned (.tuple #[.int .i64 (opK s : Nat), v, .int .i64 (opE s)]) ∧ BRow W v (opD s) w' := by
  by_cases h1 : s.length = 512
  · by_cases h2 : numL (s.take 4) = sumB (s.drop 4)
    · by_cases h3 : numL ((s.drop 4).take 1) = 0 ∨ 505 < numL ((s.drop 5).take 2)
      · have he : opE s = 11 := by unfold opE; rw [if_neg (by omega), if_neg (by omega), if_pos (h3.elim .inl fun h => .inr (.inl h))]; rfl
        have hk : opK s = 0 := by unfold opK; rw [if_neg (by rw [he]; decide)]
        have hd : opD s = [] := by unfold opD; rw [if_neg (by rw [he]; decide)]
        rw [he, hk, hd]
        exact (open_kind hE hB hc hcm h1 h2 h3).mono fun e w' ⟨h, hw⟩ => ⟨_, h, hw ▸ BRow.none W⟩
      · refine (open_rest hE hB hc hcm h1 h2 (by omega) (by omega)).mono fun e w' h => ?_
        cases hq : (s.drop (7 + numL ((s.drop 5).take 2))).all (· == 0) with
        | false =>
          rw [hq, if_neg (by decide)] at h
          have he : opE s = 11 := by unfold opE; rw [if_neg (by omega), if_neg (by omega), if_pos (.inr (.inr (by rw [hq]; decide)))]; rfl
          have hk : opK s = 0 := by unfold opK; rw [if_neg (by rw [he]; decide)]
          have hd : opD s = [] := by unfold opD; rw [if_neg (by rw [he]; decide)]
          rw [he, hk, hd]
          exact ⟨_, h.1, h.2 ▸ BRow.none W⟩
        | true =>
          rw [hq, if_pos rfl] at h
          have he : opE s = 0 := by unfold opE; rw [if_neg (by omega), if_neg (by omega), if_neg (by rw [hq]; rintro (h | h | h) <;> first | omega | exact h rfl)]
          rw [he, show opK s = numL ((s.drop 4).take 1) by unfold opK; rw [if_pos he], show opD s = (s.drop 7).take (numL ((s.drop 5).take 2)) by unfold opD; rw [if_pos he]]
          exact h
    · have he : opE s = 13 := by unfold opE; rw [if_neg (by omega), if_pos h2]; rfl
      have hk : opK s = 0 := by unfold opK; rw [if_neg (by rw [he]; decide)]
      have hd : opD s = [] := by unfold opD; rw [if_neg (by rw [he]; decide)]
      rw [he, hk, hd]
      exact (open_sum hE hB hc hcm h1 h2).mono fun e w' ⟨h, hw⟩ => ⟨_, h, hw ▸ BRow.none W⟩
  · have he : opE s = 14 := by unfold opE; rw [if_pos h1]; rfl
    have hk : opK s = 0 := by unfold opK; rw [if_neg (by rw [he]; decide)]
    have hd : opD s = [] := by unfold opD; rw [if_neg (by rw [he]; decide)]
    rw [he, hk, hd]
    exact (open_short h1).mono fun e w' ⟨h, hw⟩ => ⟨_, h, hw ▸ BRow.none W⟩
end Go.Proofs.YtfjiceoagenfnaaDoor
