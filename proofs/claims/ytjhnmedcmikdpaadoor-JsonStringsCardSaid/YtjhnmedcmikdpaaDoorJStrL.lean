/- The law JsonStrings: its walk. -/
import Derived.Test.YtjhnmedcmikdpaaDoorJEnd
import Derived.Test.YtjhnmedcmikdpaaDoorJPrs
import Derived.Test.YtjhnmedcmikdpaaDoorJRefU
import Derived.Test.YtjhnmedcmikdpaaDoorJBlkL
namespace Go.Proofs.YtjhnmedcmikdpaaDoor
open Go.RowKit Go.Shelf Go.Lib

def BoolsAt (W : World) (A : Option Addr) (hs : List Bool) : Prop := ∀ i b, hs[i]? = some b → ∃ g o, A = some ⟨g, o, none⟩ ∧ g < W.heap.size ∧ W.cell? ⟨g, o + i, none⟩ = some (.bool b)
theorem BoolsAt.on {W W' : World} {A : Option Addr} {hs : List Bool} (h : BoolsAt W A hs) (hb : Below W.heap.size W W') : BoolsAt W' A hs := fun i b hi => by
  obtain ⟨g, o, e, hg, hc⟩ := h i b hi
  exact ⟨g, o, e, Nat.lt_of_lt_of_le hg hb.size, (cell_keep (hb.block g hg) _).trans hc⟩
/-- Is a byte at a place to stand as it is? -/
def plainF (hs : List Bool) (j : Nat) : Bool := match hs[j]? with | some b => !b | none => true
theorem str_at (W : World) (k : Int) (t : ByteArray) (A B : Option Addr) (c d : Nat) : VAt W (fun _ => False) 1 ⟨k, t, .slice A 0 c, .slice B 0 d⟩ (.mk k t [] []) :=
  ⟨rfl, rfl, ⟨A, c, rfl, Nat.zero_le _, fun i t h => by cases h⟩, B, d, rfl, Nat.zero_le _, fun i x h => by cases h⟩
theorem same_str (W : World) (k : Int) (t : ByteArray) (A B A' B' : Option Addr) (c d c' d' : Nat) :
    Calls Tryd.prog 14 #[.agg #[.int .i64 k, .string t, .slice A 0 c, .slice B 0 d], .agg #[.int .i64 k, .string t, .slice A' 0 c', .slice B' 0 d']] W fun e w' => e = .returned (.bool true) ∧ Below W.heap.size W w' :=
  same_box (str_at W k t A B c d) (str_at W k t A' B' c' d') (fun g h => h.elim) (fun g h => h.elim) ⟨Nat.zero_le _, Nat.zero_le _, fun x hx => by cases hx⟩
theorem alt_yes {b pl : Bool} {c : UInt8} (h : pl = (decide (32 ≤ c.toNat) && (decide (c.toNat ≠ 34) && (decide (c.toNat ≠ 92) && b)))) (hy : 128 ≤ c.toNat ∨ pl = true) : alt b c = [c] := by
  unfold alt
  rw [if_pos]
  rcases hy with hy | hy
  · exact .inl hy
  · rw [hy] at h
    simp only [Bool.true_eq, Bool.and_eq_true, decide_eq_true_eq] at h
    exact .inr h
theorem alt_no {b pl : Bool} {c : UInt8} (h : pl = (decide (32 ≤ c.toNat) && (decide (c.toNat ≠ 34) && (decide (c.toNat ≠ 92) && b)))) (hy : ¬ (128 ≤ c.toNat ∨ pl = true)) : alt b c = escU c := by
  unfold alt
  rw [if_neg]
  intro hc
  apply hy
  rcases hc with hc | hc
  · exact .inl hc
  · right
    rw [h]
    simp only [Bool.and_eq_true, decide_eq_true_eq]
    exact hc
theorem altAll_snoc (f : Nat → Bool) : ∀ (l : List UInt8) (j : Nat) (c : UInt8), altAll f j (l ++ [c]) = altAll f j l ++ alt (f (j + l.length)) c
  | [], j, c => by simp [altAll]
  | x :: l, j, c => by
    rw [List.cons_append, altAll, altAll, altAll_snoc f l (j + 1) c, List.append_assoc, List.length_cons, show j + 1 + l.length = j + (l.length + 1) by omega]

theorem hex_ext (q : Nat) (h : q < 16) : ((⟨#[48, 49, 50, 51, 52, 53, 54, 55, 56, 57, 65, 66, 67, 68, 69, 70]⟩ : ByteArray).extract q (q + 1)).data.toList = [hexU.getD q 0] := by
  rw [Lib.extract_data, show q + 1 - q = 1 by omega]
  have hh : ∀ n : Nat, n < 16 → (hexU.drop n).take 1 = [hexU.getD n 0] := by decide
  exact hh q h
theorem esc_text {T s : ByteArray} {f : Nat → Bool} {j q r : Nat} {c : UInt8} (hT : T.data.toList = 34 :: altAll f 0 (s.data.toList.take j)) (hA : altAll f 0 (s.data.toList.take (j + 1)) = altAll f 0 (s.data.toList.take j) ++ alt (f j) c) (hy : alt (f j) c = escU c) (hq : q = c.toNat / 16) (hr : r = c.toNat % 16) :
    (T ++ ⟨#[92, 117, 48, 48]⟩ ++ (⟨#[48, 49, 50, 51, 52, 53, 54, 55, 56, 57, 65, 66, 67, 68, 69, 70]⟩ : ByteArray).extract q (q + 1) ++ (⟨#[48, 49, 50, 51, 52, 53, 54, 55, 56, 57, 65, 66, 67, 68, 69, 70]⟩ : ByteArray).extract r (r + 1)).data.toList = 34 :: altAll f 0 (s.data.toList.take (j + 1)) := by
  have hc := c.toNat_lt
  have e1 := hex_ext q (by omega)
  have e2 := hex_ext r (by omega)
  rw [hA, hy]
  unfold escU
  rw [← hq, ← hr]
  simp only [Go.Joins.data_append, hT, e1, e2]
  simp
theorem esc_size {T : ByteArray} {q r j : Nat} (h : T.size ≤ 1 + 6 * j) :
    (T ++ ⟨#[92, 117, 48, 48]⟩ ++ (⟨#[48, 49, 50, 51, 52, 53, 54, 55, 56, 57, 65, 66, 67, 68, 69, 70]⟩ : ByteArray).extract q (q + 1) ++ (⟨#[48, 49, 50, 51, 52, 53, 54, 55, 56, 57, 65, 66, 67, 68, 69, 70]⟩ : ByteArray).extract r (r + 1)).size ≤ 1 + 6 * (j + 1) := by
  simp only [ByteArray.size_append, ByteArray.size_extract]
  have : (⟨#[92, 117, 48, 48]⟩ : ByteArray).size = 4 := rfl
  omega

set_option maxHeartbeats 4000000 in
set_option maxRecDepth 100000 in
theorem strings_walk (s : ByteArray) {W : World} (hE : Env W) {A : Option Addr} {hs : List Bool} {cp : Nat} (hY : BoolsAt W A hs) :
    Calls Tryd.prog 7 #[.string s, .slice A hs.length cp] W fun e w' => e = .returned (.bool true) ∧ Below W.heap.size W w' := by
  have HA := Lib.hid (fun W' (hb : Below W.heap.size W W') => answers_any (hE.on hb))
  have HE := Lib.hid hE
  have HB0 := Lib.hid (Below.refl W.heap.size W)
  have HY := Lib.hid hY
  clear hE hY
  by_cases hbig : (2000 : Int) < (s.size : Int)
  · go_enter Tryd.func7, Tryd.ntmps7
    go_wp2_with (first
      | (go_at_call 12; (with_reducible refine (HA.out _ HB0.out).mono ?_); rintro e' W1 ⟨rfl, hB1⟩; have HB1 := Lib.hid hB1; clear hB1)
      | (go_at_call 12; (with_reducible refine (HA.out _ HB1.out).mono ?_); rintro e' W2 ⟨rfl, hB2⟩; have HB2 := Lib.hid (HB1.out.trans (hB2.mono HB1.out.size)); clear hB2))
    go_ret
    exact ⟨rfl, HB2.out⟩
  have hsz : s.size ≤ 2000 := by omega
  have hlen : s.data.toList.length = s.size := (Lib.size_eq s).symm
  cases hv : Lib.validD s.data.toList with
  | false =>
    have HP := Lib.hid (fun W' (hb : Below W.heap.size W W') => print_no s none none 0 0 (HE.out.on hb) (by omega) hv)
    have HU : Hid (∀ W', Calls Tryd.prog 15 #[.string s] W' fun e w' => e = .returned (.bool false) ∧ Below W'.heap.size W' w') := fun W' => by rw [← hv]; exact ref_UTF8 s W' (by omega)
    clear hv
    go_enter Tryd.func7, Tryd.ntmps7
    go_wp2_with (first
      | (go_at_call 12; (with_reducible refine (HA.out _ HB0.out).mono ?_); rintro e' W1 ⟨rfl, hB1⟩; have hB2 := hB1.alloc hB1.size (Obj.cells #[.int .i64 5, .string s, .slice none 0 0, .slice none 0 0] 25 (0, 0)); have HB2 := Lib.hid hB2; clear hB1 hB2)
      | (go_at_call 9; (with_reducible refine (HP.out _ HB2.out).mono ?_); rintro e' W3 ⟨rfl, hB3⟩; have HB3 := Lib.hid (HB2.out.trans (hB3.mono HB2.out.size)); clear hB3)
      | (go_at_call 15; (with_reducible refine (HU.out _).mono ?_); rintro e' W4 ⟨rfl, hB4⟩; have HB4 := Lib.hid (HB3.out.trans (hB4.mono HB3.out.size)); clear hB4))
    go_ret
    exact ⟨rfl, HB4.out⟩
  | true =>
    have hpc := shown_pieces s (s.size + 1) 0 (by omega) (by omega) (by rw [List.drop_zero]; exact hv)
    rw [List.drop_zero] at hpc
    obtain ⟨hpq, hql⟩ := hpc.parse (by omega) (s := quotedL s) rfl
    rw [show (⟨s.data.toList.toArray⟩ : ByteArray) = s from Lib.mk_data s] at hpq
    have hpa := alt_pieces (plainF hs) s.data.toList.length s.data.toList 0 (Nat.le_refl _) hv
    have HP := Lib.hid (fun W' (hb : Below W.heap.size W W') => print_yes s none none 0 0 (HE.out.on hb) (by omega) hv (by omega))
    have HU : Hid (∀ W', Calls Tryd.prog 15 #[.string s] W' fun e w' => e = .returned (.bool true) ∧ Below W'.heap.size W' w') := fun W' => by rw [← hv]; exact ref_UTF8 s W' (by omega)
    have HPQ := Lib.hid hpq
    have HPA := Lib.hid hpa
    have HS := Lib.hid (fun W' A1 B1 c1 d1 => same_str W' 5 s none none A1 B1 0 0 c1 d1)
    clear hv hpc hpq hpa
    generalize quotedL s = ql at *
    go_enter Tryd.func7, Tryd.ntmps7
    go_upto_region 10 with (first
      | (go_at_call 12; (with_reducible refine (HA.out _ HB0.out).mono ?_); rintro e' W1 ⟨rfl, hB1⟩; have hbx := heap_alloc_new W1 (Obj.cells #[.int .i64 5, .string s, .slice none 0 0, .slice none 0 0] 25 (0, 0)); have hB2 := hB1.alloc hB1.size (Obj.cells #[.int .i64 5, .string s, .slice none 0 0, .slice none 0 0] 25 (0, 0)); have HB2 := Lib.hid hB2; have HX1 := Lib.hid hbx; clear hB1 hB2 hbx)
      | (go_at_call 9; (with_reducible refine (HP.out _ HB2.out).mono ?_); rintro e' W3 ⟨P, p, rfl, hB3, hY3, hb3, hl3, hm3⟩; have HB3 := Lib.hid (HB2.out.trans (hB3.mono HB2.out.size)); have hx3 := (hB3.block _ (blk_lt HX1.out)).trans HX1.out; have HX3 := Lib.hid hx3; have HY3 := Lib.hid hY3; have Hb3 := Lib.hid hb3; have HM3 := Lib.hid hm3; clear hB3 hY3 hb3 hm3 hx3)
      | (go_at_call 15; (with_reducible refine (HU.out _).mono ?_); rintro e' W4 ⟨rfl, hB4⟩; have HB4 := Lib.hid (HB3.out.trans (hB4.mono HB3.out.size)); have hx4 := (hB4.block _ (blk_lt HX3.out)).trans HX3.out; have HX4 := Lib.hid hx4; have HY4 := Lib.hid (bytes_on HY3.out (grew_of hB4 none) (fun _ _ => by simp)); have Hb4 : Hid (∀ ad, P = some ad → ad.block < W4.heap.size) := fun ad e => Nat.lt_of_lt_of_le (Hb3.out ad e) hB4.size; clear hB4 hx4)
      | (go_at_call 13; (with_reducible refine (parse_str HPQ.out (HE.out.on HB4.out) HY4.out Hb4.out hl3 (by have := HM3.out; unfold maxLen at this; omega)).mono ?_); rintro e' W5 ⟨A1, c1, A2, c2, rfl, hB5⟩; have hx5 := (hB5.block _ (blk_lt HX4.out)).trans HX4.out; have hB6 := hB5.alloc hB5.size (Obj.cells #[.int .i64 5, .string s, .slice A1 0 c1, .slice A2 0 c2] 25 (0, 0)); have hx6 := blk_alloc hx5 (Obj.cells #[.int .i64 5, .string s, .slice A1 0 c1, .slice A2 0 c2] 25 (0, 0)); have hx7 := heap_alloc_new W5 (Obj.cells #[.int .i64 5, .string s, .slice A1 0 c1, .slice A2 0 c2] 25 (0, 0)); have q0 := blk_cell hx6 0; have q1 := blk_cell hx6 1; have q2 := blk_cell hx6 2; have q3 := blk_cell hx6 3; have r0 := blk_cell hx7 0; have r1 := blk_cell hx7 1; have r2 := blk_cell hx7 2; have r3 := blk_cell hx7 3; simp only [List.getElem?_toArray, List.getElem?_cons_zero, List.getElem?_cons_succ] at q0 q1 q2 q3 r0 r1 r2 r3; have HB6 := Lib.hid (HB4.out.trans (hB6.mono HB4.out.size)); have HX6 := Lib.hid hx6; clear hx5 hB5 hB6 hx6 hx7)
      | (go_at_call 14; (with_reducible refine (HS.out _ _ _ _ _).mono ?_); rintro e' W7 ⟨rfl, hB7⟩; have HB7 := Lib.hid (HB6.out.trans (hB7.mono HB6.out.size)); have HX7 := Lib.hid ((hB7.block _ (blk_lt HX6.out)).trans HX6.out); clear hB7))
    clear HX1 HX3 HX4 HX6 HY3 HY4 Hb3 Hb4 HM3 hl3 q0 q1 q2 q3 r0 r1 r2 r3 HP HU HB2 HB3 HB4 HB6
    generalize W1.heap.size = n5 at *
    generalize W5.heap.size = n8 at *
    go_wp2_with fail
    go_loopw [11, 12] (fun t i wr => ∃ (j : Nat) (T : ByteArray), t = .string T ∧ i = .int .i64 j ∧ j ≤ s.size ∧ T.size ≤ 1 + 6 * j ∧ Hid (Below W7.heap.size W7 wr) ∧ Hid (T.data.toList = 34 :: altAll (plainF hs) 0 (s.data.toList.take j))) (fun _ i _ => s.size - (RowKit.intOf i).toNat)
    case atStart => exact ⟨0, ⟨#[34]⟩, rfl, rfl, by omega, by decide, Below.refl _ _, rfl⟩
    case round =>
      obtain ⟨j, T, rfl, rfl, hj, hTs, HBw, HT⟩ := hrel
      by_cases hlt : j < s.size
      · have hl : (j : Int) < (s.size : Int) := by omega
        have hx : s.data.toList.take (j + 1) = s.data.toList.take j ++ [s[j]] := by
          rw [List.take_add_one]
          have hj2 : j < s.data.toList.length := by rw [← Lib.size_eq]; exact hlt
          rw [List.getElem?_eq_getElem hj2]
          rfl
        have hlj : (s.data.toList.take j).length = j := by rw [List.length_take]; omega
        have hal : altAll (plainF hs) 0 (s.data.toList.take (j + 1)) = altAll (plainF hs) 0 (s.data.toList.take j) ++ alt (plainF hs j) s[j] := by
          rw [hx, altAll_snoc, hlj, Nat.zero_add]
        have HAL := Lib.hid hal
        have hc8 := s[j].toNat_lt
        obtain ⟨pl, hpl⟩ : ∃ b, b = (decide (32 ≤ s[j].toNat) && (decide (s[j].toNat ≠ 34) && (decide (s[j].toNat ≠ 92) && plainF hs j))) := ⟨_, rfl⟩
        obtain ⟨n34, h34⟩ : ∃ b, (((s[j].toNat : Nat) : Int) != 34) = b := ⟨_, rfl⟩
        obtain ⟨n92, h92⟩ : ∃ b, (((s[j].toNat : Nat) : Int) != 92) = b := ⟨_, rfl⟩
        obtain ⟨n32, h32⟩ : ∃ b, decide ((32 : Int) ≤ ((s[j].toNat : Nat) : Int)) = b := ⟨_, rfl⟩
        have HP2 : Hid (pl = (n32 && (n34 && (n92 && plainF hs j)))) := by
          show pl = _
          rw [hpl, ← h34, ← h92, ← h32]
          have e1 : decide (32 ≤ s[j].toNat) = decide ((32 : Int) ≤ ((s[j].toNat : Nat) : Int)) := by rw [decide_eq_decide]; omega
          have e2 : decide (s[j].toNat ≠ 34) = (((s[j].toNat : Nat) : Int) != 34) := by rw [Bool.eq_iff_iff, decide_eq_true_iff, bne_iff_ne]; omega
          have e3 : decide (s[j].toNat ≠ 92) = (((s[j].toNat : Nat) : Int) != 92) := by rw [Bool.eq_iff_iff, decide_eq_true_iff, bne_iff_ne]; omega
          rw [e1, e2, e3]
        have HPL := Lib.hid hpl
        clear hx hal hpl hlj
        go_upto_region 15 with (fail)
        go_cut [14] (fun v wx => v = .bool pl ∧ wx = wr)
        case first =>
          rcases Nat.lt_or_ge j hs.length with hjl | hjl
          · obtain ⟨g, o, rfl, hg, hcl⟩ := HY.out.on (HB7.out.trans (HBw.out.mono HB7.out.size)) j hs[j] (List.getElem?_eq_getElem hjl)
            have hj1 : (j : Int) < (hs.length : Int) := by omega
            have hj0 : (0 : Int) ≤ (j : Int) := by omega
            have hpf : plainF hs j = !hs[j] := by unfold plainF; rw [List.getElem?_eq_getElem hjl]
            have HPF := Lib.hid hpf
            clear hpf
            go_wp2_with fail
            all_goals go_meet
            all_goals refine ⟨?_, rfl⟩
            all_goals (rw [HP2.out, HPF.out]; simp_all)
            all_goals (intro h; omega)
          · have hj1 : ¬ (j : Int) < (hs.length : Int) := by omega
            have hj2 : (hs.length : Int) ≤ (j : Int) := by omega
            have hpf : plainF hs j = true := by unfold plainF; rw [List.getElem?_eq_none hjl]
            have HPF := Lib.hid hpf
            clear hpf
            go_wp2_with fail
            all_goals go_meet
            all_goals refine ⟨?_, rfl⟩
            all_goals (rw [HP2.out, HPF.out]; simp_all)
        case rest =>
          obtain ⟨rfl, hw⟩ := hcut
          have hw := hw.symm
          subst hw
          have hw1 : IntKind.i64.wrap ((j : Int) + 1) = (j : Int) + 1 := IntWalk.i64_in _ (by omega)
          have hj0 : (0 : Int) ≤ (j : Int) := by omega
          have hj2 : (j : Int) ≤ (j : Int) + 1 := by omega
          have hj3 : (j : Int) + 1 ≤ (s.size : Int) := by omega
          have hxt : (s.extract j (j + 1)).data.toList = [s[j]] := by
            rw [Lib.extract_data, show j + 1 - j = 1 by omega]
            have hj2 : j < s.data.toList.length := by rw [← Lib.size_eq]; exact hlt
            rw [List.drop_eq_getElem_cons hj2]
            rfl
          have HXT := Lib.hid hxt
          clear hxt
          by_cases hy : 128 ≤ s[j].toNat ∨ pl = true
          · have hal2 : alt (plainF hs j) s[j] = [s[j]] := alt_yes HPL.out hy
            have HAY := Lib.hid hal2
            have hfin : (T ++ s.extract j (j + 1)).data.toList = 34 :: altAll (plainF hs) 0 (s.data.toList.take (j + 1)) ∧ (T ++ s.extract j (j + 1)).size ≤ 1 + 6 * (j + 1) := by
              have h : (T ++ s.extract j (j + 1)).data.toList = T.data.toList ++ [s[j]] := by rw [← HXT.out]; simp
              refine ⟨by rw [h, HT.out, HAL.out, HAY.out]; simp, ?_⟩
              rw [Lib.size_eq, h, List.length_append, ← Lib.size_eq]
              simp only [List.length_cons, List.length_nil]
              omega
            have HFIN := Lib.hid hfin
            clear hal2 hfin h34 h92 h32
            by_cases h128 : (128 : Int) ≤ (s[j].toNat : Int)
            · go_wp2_with fail
              all_goals first
                | exact ⟨⟨j + 1, _, rfl, by go_num, by omega, HFIN.out.2, HBw.out, HFIN.out.1⟩, by simp [RowKit.intOf]; omega⟩
                | (exfalso; omega)
            · obtain rfl : pl = true := by rcases hy with h | h; omega; exact h
              go_wp2_with fail
              all_goals first
                | exact ⟨⟨j + 1, _, rfl, by go_num, by omega, HFIN.out.2, HBw.out, HFIN.out.1⟩, by simp [RowKit.intOf]; omega⟩
                | (exfalso; omega)
          · have hal2 : alt (plainF hs j) s[j] = escU s[j] := alt_no HPL.out hy
            have HAY := Lib.hid hal2
            have h128 : ¬ (128 : Int) ≤ (s[j].toNat : Int) := by omega
            obtain rfl : pl = false := by cases pl; rfl; exact absurd (.inr rfl) hy
            obtain ⟨q, hq⟩ : ∃ q, q = s[j].toNat / 16 := ⟨_, rfl⟩
            obtain ⟨r, hr⟩ : ∃ r, r = s[j].toNat % 16 := ⟨_, rfl⟩
            have hq1 : ((s[j].toNat : Nat) : Int).tdiv 16 = (q : Int) := by rw [Int.tdiv_eq_ediv_of_nonneg (by omega)]; omega
            have hr1 : ((s[j].toNat : Nat) : Int).tmod 16 = (r : Int) := by rw [Int.tmod_eq_emod_of_nonneg (by omega)]; omega
            have hq2 : q < 8 := by omega
            have hr2 : r < 16 := by omega
            have hq3 : IntKind.u8.wrap ((q : Int) + 1) = (q : Int) + 1 := by rw [IntKind.wrap_u8]; omega
            have hr3 : IntKind.u8.wrap ((r : Int) + 1) = (r : Int) + 1 := by rw [IntKind.wrap_u8]; omega
            have HQ := Lib.hid hq
            have HR := Lib.hid hr
            clear hal2 h34 h92 h32 hq hr
            have hq0 : (0 : Int) ≤ (q : Int) := by omega
            have hq4 : (q : Int) ≤ (q : Int) + 1 := by omega
            have hq5 : (q : Int) + 1 ≤ 16 := by omega
            have hr0 : (0 : Int) ≤ (r : Int) := by omega
            have hr4 : (r : Int) ≤ (r : Int) + 1 := by omega
            have hr5 : (r : Int) + 1 ≤ 16 := by omega
            have hfin := esc_text (T := T) (HT.out) (HAL.out) HAY.out HQ.out HR.out
            have hfs := esc_size (T := T) (q := q) (r := r) (j := j) hTs
            have HFIN := Lib.hid hfin
            have HFS := Lib.hid hfs
            have HBD : ∀ k, Hid (Below W7.heap.size W7 (wr.drewN k)) := fun k => below_drewN HBw.out k
            clear hfin hfs
            go_wp2_with fail
            go_region
            go_wp2_with fail
            all_goals first
              | exact ⟨⟨j + 1, _, rfl, by go_num, by omega, HFS.out, below_drew HBw.out, HFIN.out⟩, by simp [RowKit.intOf]; omega⟩
              | (exfalso; omega)
      · have hl : ¬ (j : Int) < (s.size : Int) := by omega
        obtain ⟨hpx, hpl⟩ := HPA.out.parse (by omega) (s := (T ++ ⟨#[34]⟩).data.toList) (by
          have := HT.out
          rw [List.take_of_length_le (by omega)] at this
          simp [this])
        rw [show (⟨s.data.toList.toArray⟩ : ByteArray) = s from Lib.mk_data s] at hpx
        obtain ⟨Wa, ca, hca, hBa, hsa, hYa, hla, hma⟩ := conv_bytes wr (T ++ ⟨#[34]⟩) (by rw [Lib.size_eq]; omega)
        have HB8 := Lib.hid (HB7.out.trans (HBw.out.mono HB7.out.size))
        have HX8 := Lib.hid ((HBw.out.block _ (blk_lt HX7.out)).trans HX7.out)
        have hEa := HE.out.on (HB8.out.trans (hBa.mono HB8.out.size))
        have hlt : (T ++ ⟨#[34]⟩ : ByteArray).data.toList.length = (T ++ ⟨#[34]⟩ : ByteArray).size := (Lib.size_eq _).symm
        have hP := parse_str (c := ca) hpx hEa hYa (fun ad e => by cases e; show wr.heap.size < _; omega) (by omega) hma
        rw [hlt, ByteArray.size_append, show (⟨#[34]⟩ : ByteArray).size = 1 from rfl] at hP
        have HP := Lib.hid hP
        have HB9 := Lib.hid (HB8.out.trans (hBa.mono HB8.out.size))
        have HX9 := Lib.hid ((hBa.block _ (blk_lt HX8.out)).trans HX8.out)
        clear hP hEa hBa hYa hla hma hpx hpl hlt hsa
        go_wp2_with (first
          | (go_at_call 13; (with_reducible refine HP.out.mono ?_); rintro e' Wb ⟨A3, c3, A4, c4, rfl, hbb⟩; have hb10 := HB9.out.trans (hbb.mono HB9.out.size); have hx10 := (hbb.block _ (blk_lt HX9.out)).trans HX9.out; have hb11 := hb10.alloc hb10.size (Obj.cells #[.int .i64 5, .string s, .slice A3 0 c3, .slice A4 0 c4] 25 (0, 0)); have hx11 := blk_alloc hx10 (Obj.cells #[.int .i64 5, .string s, .slice A3 0 c3, .slice A4 0 c4] 25 (0, 0)); have hx12 := heap_alloc_new Wb (Obj.cells #[.int .i64 5, .string s, .slice A3 0 c3, .slice A4 0 c4] 25 (0, 0)); have q0 := blk_cell hx11 0; have q1 := blk_cell hx11 1; have q2 := blk_cell hx11 2; have q3 := blk_cell hx11 3; have r0 := blk_cell hx12 0; have r1 := blk_cell hx12 1; have r2 := blk_cell hx12 2; have r3 := blk_cell hx12 3; simp only [List.getElem?_toArray, List.getElem?_cons_zero, List.getElem?_cons_succ] at q0 q1 q2 q3 r0 r1 r2 r3; have HB11 := Lib.hid hb11; clear hbb hb10 hx10 hb11 hx11 hx12)
          | (go_at_call 14; (with_reducible refine (HS.out _ _ _ _ _).mono ?_); rintro e' Wc ⟨rfl, hbc⟩; have HB12 := Lib.hid (HB11.out.trans (hbc.mono HB11.out.size)); clear hbc))
        go_ret
        exact ⟨rfl, HB12.out⟩
end Go.Proofs.YtjhnmedcmikdpaaDoor
