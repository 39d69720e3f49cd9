/- The walk of the law FrameParts. -/
import Derived.Test.YtdnfijhclikkfabDoorFRefS
import Derived.Test.YtdnfijhclikkfabDoorFOpenL
namespace Go.Proofs.YtdnfijhclikkfabDoor
open Go.RowKit Go.Lib

/-- Numbers one behind the other, each as k bytes. -/
def allL (k : Nat) (xs : List Nat) : List UInt8 := xs.flatMap fun x => putL x k
theorem allL_len (k : Nat) : ∀ xs : List Nat, (allL k xs).length = xs.length * k
  | [] => by simp [allL]
  | x :: xs => by
    show (putL x k ++ allL k xs).length = _
    rw [List.length_append, putL_len, allL_len k xs, List.length_cons, Nat.add_mul]
    omega
theorem allL_next (k : Nat) {xs : List Nat} {j : Nat} (h : j < xs.length) : allL k (xs.take (j + 1)) = allL k (xs.take j) ++ putL xs[j] k := by
  unfold allL
  rw [List.take_add_one, List.getElem?_eq_getElem h, List.flatMap_append]
  simp
theorem allL_at (k : Nat) : ∀ (xs : List Nat) (j : Nat) (h : j < xs.length), ((allL k xs).drop (j * k)).take k = putL xs[j] k
  | x :: xs, 0, _ => by
    show ((putL x k ++ allL k xs).drop (0 * k)).take k = putL x k
    rw [Nat.zero_mul, List.drop_zero, List.take_append_of_le_length (by rw [putL_len]; exact Nat.le_refl _), List.take_of_length_le (by rw [putL_len]; exact Nat.le_refl _)]
  | x :: xs, j + 1, h => by
    have hj : j < xs.length := by simpa using h
    have e : (putL x k ++ allL k xs).drop k = allL k xs := by
      rw [List.drop_append_of_le_length (by rw [putL_len]; exact Nat.le_refl _), List.drop_of_length_le (by rw [putL_len]; exact Nat.le_refl _), List.nil_append]
    show ((putL x k ++ allL k xs).drop ((j + 1) * k)).take k = putL (xs[j]'hj) k
    rw [Nat.add_mul, Nat.one_mul, Nat.add_comm, ← List.drop_drop, e]
    exact allL_at k xs j hj
theorem pow_ge {k : Nat} (h : 4 ≤ k) : 4294967296 ≤ 256 ^ k := Nat.le_trans (by decide) (Nat.pow_le_pow_right (show 0 < 256 by decide) h)
theorem part_num (k : Nat) (xs : List Nat) (hx : ∀ x ∈ xs, x < 4294967296) (h4 : 4 ≤ k) (h7 : k ≤ 7) (j : Nat) (h : j < xs.length) : nmE (allL k xs) ((j * k : Nat) : Int) (k : Int) = 0 ∧ nmV (allL k xs) ((j * k : Nat) : Int) (k : Int) = xs[j] := by
  have hl : j * k + k ≤ (allL k xs).length := by
    rw [allL_len]
    have : (j + 1) * k ≤ xs.length * k := Nat.mul_le_mul_right _ h
    rw [Nat.add_mul] at this
    omega
  have he : nmE (allL k xs) ((j * k : Nat) : Int) (k : Int) = 0 := by
    unfold nmE
    rw [if_neg (by omega), if_neg (by omega)]
  refine ⟨he, ?_⟩
  unfold nmV
  rw [if_pos he, Int.toNat_natCast, Int.toNat_natCast, allL_at k xs j h, put_num (Nat.lt_of_lt_of_le (hx _ (List.getElem_mem h)) (pow_ge h4))]
theorem part_end (k : Nat) (xs : List Nat) (h4 : 4 ≤ k) (h7 : k ≤ 7) : nmE (allL k xs) ((xs.length * k : Nat) : Int) (k : Int) = 14 := by
  unfold nmE
  rw [if_neg (by omega), if_pos (by rw [allL_len]; omega)]
  rfl
theorem u32_at {W : World} {A : Option Addr} {xs : List Nat} (hB : U32sAt W A xs) {j : Nat} (h : j < xs.length) : ∃ g o, A = some ⟨g, o, none⟩ ∧ W.cell? ⟨g, o + j, none⟩ = some (.int .u32 (xs[j] : Nat)) := by
  obtain ⟨g, o, e, hc⟩ := hB (by omega)
  refine ⟨g, o, e, ?_⟩
  rw [hc j h]
  simp [List.getD_eq_getElem?_getD, List.getElem?_eq_getElem h]
theorem U32sAt.on {W W' : World} {A : Option Addr} {xs : List Nat} (h : U32sAt W A xs) (hb : Below W.heap.size W W') : U32sAt W' A xs := fun h0 => by
  obtain ⟨g, o, rfl, hc⟩ := h h0
  exact ⟨g, o, rfl, fun i hi => (grew_of hb none).cell (hc i hi) (by simp)⟩
set_option maxHeartbeats 4000000 in
theorem parts_bad {W : World} (hE : Env W) (k : Int) {A : Option Addr} {c n : Nat} (h : 200 < n ∨ k < 4 ∨ 7 < k) :
    Calls Tryd.prog 4 #[.slice A n c, .int .i64 k] W fun e w' => e = .returned (.bool true) ∧ Below W.heap.size W w' := by
  have HE := Lib.hid hE
  have HA := Lib.hid (fun W' hb => answers_any (hE.on (W' := W') hb))
  have HB0 := Lib.hid (Below.refl W.heap.size W)
  clear hE
  by_cases h1 : (200 : Int) < (n : Int)
  · clear h
    go_enter Tryd.func4, Tryd.ntmps4
    go_wp2_with fail
    go_at_call 8
    refine (HA.out _ HB0.out).mono ?_
    rintro e' w1 ⟨rfl, hb1⟩
    have HB1 := Lib.hid hb1
    clear hb1
    go_wp2_with fail
    go_at_call 8
    refine (HA.out _ HB1.out).mono ?_
    rintro e' w2 ⟨rfl, hb2⟩
    have HB2 := Lib.hid (HB1.out.trans (hb2.mono HB1.out.size))
    clear hb2
    go_wp2_with fail
    go_ret
    exact ⟨rfl, HB2.out⟩
  · by_cases h2 : k < 4
    · clear h
      go_enter Tryd.func4, Tryd.ntmps4
      go_wp2_with fail
      go_at_call 8
      refine (HA.out _ HB0.out).mono ?_
      rintro e' w1 ⟨rfl, hb1⟩
      have HB1 := Lib.hid hb1
      clear hb1
      go_wp2_with fail
      go_at_call 8
      refine (HA.out _ HB1.out).mono ?_
      rintro e' w2 ⟨rfl, hb2⟩
      have HB2 := Lib.hid (HB1.out.trans (hb2.mono HB1.out.size))
      clear hb2
      go_wp2_with fail
      go_ret
      exact ⟨rfl, HB2.out⟩
    · have h3 : 7 < k := by omega
      clear h
      go_enter Tryd.func4, Tryd.ntmps4
      go_wp2_with fail
      go_at_call 8
      refine (HA.out _ HB0.out).mono ?_
      rintro e' w1 ⟨rfl, hb1⟩
      have HB1 := Lib.hid hb1
      clear hb1
      go_wp2_with fail
      go_at_call 8
      refine (HA.out _ HB1.out).mono ?_
      rintro e' w2 ⟨rfl, hb2⟩
      have HB2 := Lib.hid (HB1.out.trans (hb2.mono HB1.out.size))
      clear hb2
      go_wp2_with fail
      go_ret
      exact ⟨rfl, HB2.out⟩
set_option maxHeartbeats 8000000 in
theorem parts_good {W : World} (hE : Env W) (k : Nat) {A : Option Addr} {c : Nat} {xs : List Nat} (hU : U32sAt W A xs) (hx : ∀ x ∈ xs, x < 4294967296) (hl : xs.length ≤ 200) (h4 : 4 ≤ k) (h7 : k ≤ 7) :
    Calls Tryd.prog 4 #[.slice A xs.length c, .int .i64 (k : Nat)] W fun e w' => e = .returned (.bool true) ∧ Below W.heap.size W w' := by
  have HA := Lib.hid (answers_any hE)
  have HU := Lib.hid (fun W' hb => hU.on (W' := W') hb)
  have g1 : ¬ (200 : Int) < (xs.length : Int) := by omega
  have g2 : ¬ (k : Int) < 4 := by omega
  have g3 : ¬ (7 : Int) < (k : Int) := by omega
  have HX := Lib.hid hx
  have H4 := Lib.hid h4
  have H7 := Lib.hid h7
  have HL := Lib.hid hl
  clear hE hU hx h4 h7
  go_enter Tryd.func4, Tryd.ntmps4
  go_wp2_with fail
  go_at_call 8
  refine HA.out.mono ?_
  rintro e' w1 ⟨rfl, hb1⟩
  have HB1 := Lib.hid hb1
  clear hb1
  go_wp2_with fail
  go_loopw [5, 6] (fun v i wr => ∃ j : Nat, i = .int .i64 j ∧ j ≤ xs.length ∧ Hid (BRow w1 v (allL k (xs.take j)) wr)) (fun _ i _ => xs.length - (RowKit.intOf i).toNat)
  case atStart => exact ⟨0, rfl, by omega, BRow.none w1⟩
  case round =>
    obtain ⟨j, rfl, hj, HR⟩ := hrel
    have HBR := Lib.hid (HB1.out.trans (HR.out.1.mono HB1.out.size))
    have hal : (allL k (xs.take j)).length ≤ 1400 := by
      rw [allL_len, List.length_take]
      have := H7.out
      have : min j xs.length * k ≤ 200 * 7 := Nat.mul_le_mul (by omega) (by omega)
      omega
    have HAL := Lib.hid hal
    clear hal
    by_cases hlt : j < xs.length
    · have hl1 : (j : Int) < (xs.length : Int) := by omega
      have hl0 : (0 : Int) ≤ (j : Int) := by omega
      obtain ⟨g, o, rfl, hcj⟩ := u32_at (HU.out _ HBR.out) hlt
      have HXJ := Lib.hid (HX.out _ (List.getElem_mem hlt))
      have HNX := Lib.hid (allL_next k hlt)
      generalize xs[j] = x at *
      obtain ⟨A5, c5, rfl, hY5, -, -, -⟩ := HR.out.at
      have hxw : IntKind.i64.wrap ((x : Nat) : Int) = ((x : Nat) : Int) := IntWalk.i64_in _ (by have := HXJ.out; omega)
      have hp := PutNum_any (c := c5) (x : Int) (k : Int) hY5 HR.out.nil (by have := HAL.out; omega) (by have := HXJ.out; omega)
      rw [putB_nat _ _ _ (by have := H4.out; omega) (by have := H7.out; omega) (Nat.lt_of_lt_of_le HXJ.out (pow_ge H4.out)), ← HNX.out] at hp
      have HP := Lib.hid hp
      clear hp hY5
      go_wp2_with (go_at_call 6; go_must ((with_reducible refine HP.out.mono ?_); rintro e' w2 ⟨v2, rfl, hR2⟩; have HR2 := Lib.hid (hR2.up HR.out.1); clear hR2))
      exact ⟨⟨j + 1, by go_num, by omega, HR2.out⟩, by simp [RowKit.intOf]; omega⟩
    · have hl1 : ¬ (j : Int) < (xs.length : Int) := by omega
      have hfull : xs.take j = xs := List.take_of_length_le (by omega)
      rw [hfull] at HR HAL
      clear hfull
      obtain ⟨A5, c5, rfl, hY5, -, hl5, hm5⟩ := HR.out.at
      have HNM := Lib.hid (fun p hp => Num_any (c := c5) p (k : Int) hY5 hl5 (by unfold maxLen at hm5; omega) (by have := HAL.out; omega) hp)
      clear hY5 hl5 hm5
      go_wp2_with fail
      go_loopw [7] (fun i wr' => ∃ j : Nat, i = .int .i64 j ∧ j ≤ xs.length ∧ wr' = wr) (fun i _ => xs.length - (RowKit.intOf i).toNat)
      case atStart => exact ⟨0, rfl, by omega, rfl⟩
      case round =>
        obtain ⟨q, rfl, hq, hw⟩ := hrel
        have hw := hw.symm
        subst hw
        have hqk : q * k ≤ 200 * 7 := Nat.mul_le_mul (by omega) H7.out
        have hwq : IntKind.i64.wrap ((q : Int) * (k : Int)) = ((q * k : Nat) : Int) := by
          rw [← Int.natCast_mul]
          exact IntWalk.i64_in _ (by omega)
        by_cases hlt : q < xs.length
        · have hl1 : (q : Int) < (xs.length : Int) := by omega
          have hl0 : (0 : Int) ≤ (q : Int) := by omega
          obtain ⟨g, o, rfl, hcj⟩ := u32_at (HU.out _ HBR.out) hlt
          have HXJ := Lib.hid (HX.out _ (List.getElem_mem hlt))
          have hpn := part_num k xs HX.out H4.out H7.out q hlt
          have hnn := HNM.out ((q * k : Nat) : Int) (by omega)
          rw [hpn.1, hpn.2] at hnn
          have HNN := Lib.hid hnn
          clear hpn hnn
          generalize xs[q] = x at *
          have hxw : IntKind.i64.wrap ((x : Nat) : Int) = ((x : Nat) : Int) := IntWalk.i64_in _ (by have := HXJ.out; omega)
          generalize q * k = m at *
          go_wp2_with (go_at_call 10; go_must ((with_reducible refine HNN.out.mono ?_); rintro e' wz ⟨rfl, hwz⟩; have hwz := hwz.symm; subst hwz))
          refine ⟨⟨q + 1, by go_num, by omega, by first | rfl | trivial⟩, by simp [RowKit.intOf]; omega⟩
        · have hl1 : ¬ (q : Int) < (xs.length : Int) := by omega
          obtain rfl : q = xs.length := by omega
          have hpe := part_end k xs H4.out H7.out
          have hnn := HNM.out ((xs.length * k : Nat) : Int) (by omega)
          rw [hpe] at hnn
          obtain ⟨V, hV⟩ : ∃ V, V = nmV (allL k xs) ((xs.length * k : Nat) : Int) (k : Int) := ⟨_, rfl⟩
          rw [← hV] at hnn
          rw [allL_len] at hnn
          have HNN := Lib.hid hnn
          clear hnn hpe hV
          rw [allL_len]
          generalize xs.length * k = m at *
          go_wp2_with (go_at_call 10; go_must ((with_reducible refine HNN.out.mono ?_); rintro e' wz ⟨rfl, hwz⟩; have hwz := hwz.symm; subst hwz))
          go_ret
          exact ⟨rfl, HBR.out⟩
theorem parts_walk {W : World} (hE : Env W) (k : Int) {A : Option Addr} {c : Nat} {xs : List Nat} (hU : U32sAt W A xs) (hx : ∀ x ∈ xs, x < 4294967296) :
    Calls Tryd.prog 4 #[.slice A xs.length c, .int .i64 k] W fun e w' => e = .returned (.bool true) ∧ Below W.heap.size W w' := by
  by_cases h : 200 < xs.length ∨ k < 4 ∨ 7 < k
  · exact parts_bad hE k h
  · have := parts_good (c := c) hE k.toNat hU hx (by omega) (by omega) (by omega)
    rwa [show ((k.toNat : Nat) : Int) = k by omega] at this
end Go.Proofs.YtdnfijhclikkfabDoor
