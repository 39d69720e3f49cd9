/- The contracts of strconv.FormatUint at base ten, of a number's size, and of Text: the decimal digits of a 128-bit integer. -/
import Derived.Test.YtchhhaiokpecjaaDoorDiv
import Derived.Test.YtchhhaiokpecjaaDoorDigits
import Derived.Lib.AppendIntMem
namespace Go.Proofs.YtchhhaiokpecjaaDoor
open Go.RowKit Go.Sort

set_option maxHeartbeats 1600000 in
set_option maxRecDepth 100000 in
theorem fmt_inner (u : Nat) (hu64 : u < 18446744073709551616) (w : World) (htab : Lib.TabIs Tryd.prog w "internal/strconv.uint64pow10" .u64 Lib.pow10Tab) :
    Calls Tryd.prog 43 #[.int .u64 u, .int .i64 10] w fun e w' => e = .returned (.string ⟨(Lib.decDigits u).toArray⟩) ∧ Below w.heap.size w w' := by
  by_cases hs : u < 100
  · go_enter Tryd.func43, Tryd.ntmps43
    go_wp2_with (go_at_call 51; refine (Tryd.internal_strconv_small u hs _).mono ?_; rintro e w' ⟨rfl, rfl⟩)
    go_ret
    exact ⟨rfl, Below.refl _ _⟩
  · have hu1 : 1 ≤ u := by omega
    have hnd20 : Lib.nDigits u ≤ 20 := Lib.nDigits_le20 u hu64
    have hal : Tryd.prog.arrayLen 81 = 24 := by kernel_rfl
    have hsl1 : ∀ W, (Instr.sliceAt 81 (.pointer (some ⟨w.heap.size, 0, none⟩)) none (some (.int .i64 (Lib.nDigits u : Int))) none).run Tryd.prog W = .ok (.slice (some ⟨w.heap.size, 0, none⟩) (Lib.nDigits u) 24) W := fun W => by
      rw [run_sliceAt_array_h W 81 ⟨w.heap.size, 0, none⟩ (by kernel_rfl) .i64 (Lib.nDigits u : Int) (by omega) (by rw [hal]; omega)]
      go_simp
    have hH0 := Lib.holds_zero0 w 81 (Lib.nDigits u) (by omega)
    have hfmt := Tryd.internal_strconv_formatBase10 w.heap.size 0 24 u (Array.replicate (Lib.nDigits u) 0) (w.alloc (.cells Lib.zeros24 81)) hH0 (by rw [Array.size_replicate]; exact Lib.lt_pow_nDigits u) hu64 (by rw [Array.size_replicate]; omega)
    rw [Array.size_replicate] at hfmt
    have HH0 := Lib.hid hH0
    clear hH0 hal
    go_enter Tryd.func43, Tryd.ntmps43
    go_wp2_with (first | (go_at_call 52; refine (Tryd.internal_strconv_numDigits u hu1 hu64 _ (Lib.tabIs_alloc htab _)).mono ?_; rintro e w' ⟨rfl, rfl⟩))
    go_at_call 53
    refine hfmt.mono ?_
    rintro e w' ⟨rfl, k, v', dk, rfl, hF⟩
    have hcv : (convert 65 9 (.slice (some ⟨w.heap.size, 0, none⟩) (Lib.nDigits u) 24)).run Tryd.prog ((putRow (fun (b : UInt8) => Value.int .u8 (b.toNat : Int)) (w.alloc (.cells Lib.zeros24 81)) w.heap.size 0 dk).drewN k) = .ok (.string ⟨(Lib.decDigits u).toArray⟩) ((putRow (fun (b : UInt8) => Value.int .u8 (b.toNat : Int)) (w.alloc (.cells Lib.zeros24 81)) w.heap.size 0 dk).drewN k) := by
      have h := run_convert_bytes_back (P := Tryd.prog) ((putRow (fun (b : UInt8) => Value.int .u8 (b.toNat : Int)) (w.alloc (.cells Lib.zeros24 81)) w.heap.size 0 dk).drewN k) 65 9 5 ⟨w.heap.size, 0, none⟩ 24 (Lib.decDigits u) Tryd.underlying65 Tryd.underlying5 Tryd.underlying9 (fun j hj => by
        rw [Lib.row_is_numeral hF j hj, Lib.add_plain, World.cell?_drewN]
        exact cell?_putRow (fun (b : UInt8) => Value.int .u8 (b.toNat : Int)) _ w.heap.size 0 _ dk HH0.out (by rw [hF.size, Array.size_replicate]) j (by rw [hF.size]; rw [Lib.decDigits_length] at hj; exact hj))
      rw [Lib.decDigits_length] at h
      exact h
    go_wp2
    go_ret
    obtain ⟨os, eo⟩ := Lib.fin_at w (.cells Lib.zeros24 81) dk k 0
    refine ⟨rfl, ?_⟩
    rw [eo]
    exact Lib.below_grow _ _ (Nat.le_refl _) _ _

set_option maxHeartbeats 400000 in
theorem fmt_any (u : Nat) (hu64 : u < 18446744073709551616) (w : World) (htab : Lib.TabIs Tryd.prog w "internal/strconv.uint64pow10" .u64 Lib.pow10Tab) :
    Calls Tryd.prog 37 #[.int .u64 u, .int .i64 10] w fun e w' => e = .returned (.string ⟨(Lib.decDigits u).toArray⟩) ∧ Below w.heap.size w w' := by
  go_enter Tryd.func37, Tryd.ntmps37
  go_wp2_with (go_at_call 43; refine (fmt_inner u hu64 _ htab).mono ?_; rintro e w' ⟨rfl, hB⟩)
  go_ret
  exact ⟨rfl, hB⟩

set_option maxHeartbeats 400000 in
theorem size_any (h l : Int) (wf : Wf h l) (w : World) :
    Calls Tryd.prog 35 #[.agg #[.int .i64 h, .int .u64 l]] w fun e w' => e = .returned (.tuple #[.int .u64 (sH h l), .int .u64 (sL h l)]) ∧ Below w.heap.size w w' := by
  have e1 := fun W => run_sub 0 l 0 (by omega) wf.2.2.1 wf.2.2.2 (by omega) (by omega) W
  have e2 := fun W => run_sub 0 (IntKind.u64.wrap h) (sbor 0 l 0) (by omega) (by rw [wrap_uw]; unfold uw; omega) (by rw [wrap_uw]; unfold uw; omega) (by unfold sbor; split <;> omega) (by unfold sbor; split <;> omega) W
  have HF : Hid (sH h l = (if h < 0 then sdif 0 (uw h) (sbor 0 l 0) else uw h) ∧ sL h l = (if h < 0 then sdif 0 l 0 else l)) := ⟨rfl, rfl⟩
  clear wf
  cases hn : ng h
  · have hn2 : ¬ h < 0 := by unfold ng at hn; simpa using hn
    have HG := Lib.hid HF.out
    rw [if_neg hn2, if_neg hn2] at HG
    clear hn2 HF e1 e2
    go_enter Tryd.func35, Tryd.ntmps35
    go_wp2_with (go_at_call 39; refine (neg_exact _ _ _).mono ?_; rintro e w' ⟨rfl, rfl⟩)
    go_quiet (fail)
    go_wp2
    go_ret2
    rw [HG.out.1, HG.out.2, wrap_uw]
    exact ⟨rfl, by first | exact below_drewN (by go_grown) _ | go_grown⟩
  · have hn2 : h < 0 := by unfold ng at hn; simpa using hn
    have HG := Lib.hid HF.out
    rw [if_pos hn2, if_pos hn2] at HG
    clear hn2 HF
    go_enter Tryd.func35, Tryd.ntmps35
    go_wp2_with (go_at_call 39; refine (neg_exact _ _ _).mono ?_; rintro e w' ⟨rfl, rfl⟩)
    go_ret2
    rw [HG.out.1, HG.out.2]
    exact ⟨rfl, by go_grown⟩

theorem fmt_int (x : Int) (h0 : 0 ≤ x) (h1 : x < 18446744073709551616) (w : World) (htab : Lib.TabIs Tryd.prog w "internal/strconv.uint64pow10" .u64 Lib.pow10Tab) :
    Calls Tryd.prog 37 #[.int .u64 x, .int .i64 10] w fun e w' => e = .returned (.string ⟨(Lib.decDigits x.toNat).toArray⟩) ∧ Below w.heap.size w w' := by
  obtain ⟨u, rfl⟩ := Int.eq_ofNat_of_zero_le h0
  exact fmt_any u (by omega) w htab

theorem div_any (hi lo : Int) (h1 : 0 ≤ hi) (h2 : hi < 10000000000000000000) (h0 : 0 ≤ lo) (h3 : lo < 18446744073709551616) (w : World) :
    Calls Tryd.prog 36 #[.int .u64 hi, .int .u64 lo, .int .u64 10000000000000000000] w fun e w' => e = .returned (.tuple #[.int .u64 (dQ hi lo), .int .u64 (dR hi lo)]) ∧ Below w.heap.size w w' := by
  by_cases hz : hi = 0
  · subst hz
    have e1 : lo / ten19 = dQ 0 lo := by unfold dQ ten19; simp
    have e2 : lo % ten19 = dR 0 lo := by unfold dR ten19; simp
    have h := div_low lo h0 h3 w
    rw [e1, e2] at h
    exact h
  · have h := div_high hi lo (by omega) h2 h0 h3 w
    exact h.mono fun e w' ⟨he, hw⟩ => ⟨he, hw ▸ Below.refl _ _⟩

theorem div_nat (h l : Int) (wf : Wf h l) : ∃ q r : Nat, q * 10000000000000000000 + r = (val h l).natAbs ∧ r < 10000000000000000000 ∧ q < 18446744073709551616 ∧ ∀ w,
    Calls Tryd.prog 36 #[.int .u64 (sH h l), .int .u64 (sL h l), .int .u64 10000000000000000000] w fun e w' => e = .returned (.tuple #[.int .u64 (q : Int), .int .u64 (r : Int)]) ∧ Below w.heap.size w w' := by
  obtain ⟨hN, hH0, hH1, hL0, hL1⟩ := size_val wf
  have hd := fun w => div_any (sH h l) (sL h l) hH0 (by omega) hL0 hL1 w
  unfold dQ dR at hd
  rw [hN] at hd
  have hv := wf_val wf
  unfold InR at hv
  refine ⟨(val h l).natAbs / 10000000000000000000, (val h l).natAbs % 10000000000000000000, by omega, by omega, by omega, fun w => ?_⟩
  have e1 : (((val h l).natAbs / 10000000000000000000 : Nat) : Int) = ((val h l).natAbs : Int) / 10000000000000000000 := by omega
  have e2 : (((val h l).natAbs % 10000000000000000000 : Nat) : Int) = ((val h l).natAbs : Int) % 10000000000000000000 := by omega
  rw [e1, e2]
  exact hd w

/-- The digits of a 128-bit integer. -/
def digs (h l : Int) : List UInt8 := Lib.itoa (val h l)
theorem ng_val {h l : Int} (wf : Wf h l) : ng h = decide (val h l < 0) := by
  unfold Wf at wf
  unfold ng val
  rw [decide_eq_decide]
  omega
theorem digs_of {h l : Int} (wf : Wf h l) : digs h l = if ng h = true then 45 :: Lib.decDigits (val h l).natAbs else Lib.decDigits (val h l).natAbs := by
  rw [ng_val wf]
  unfold digs Lib.itoa
  simp only [decide_eq_true_eq]
  split
  · rfl
  · rw [show (val h l).toNat = (val h l).natAbs by omega]
theorem nat_digits {q r N : Nat} (e : q * 10000000000000000000 + r = N) (hr : r < 10000000000000000000) : Lib.decDigits N = if q = 0 then Lib.decDigits r else Lib.decDigits q ++ (List.replicate (19 - Lib.nDigits r) 48 ++ Lib.decDigits r) := by
  subst e
  split
  · rename_i h; subst h; simp
  · exact digits_parts q (by omega) 18 r hr
theorem digits19 {r : Nat} (hr : r < 10000000000000000000) : Lib.nDigits r ≤ 19 := by
  have key : ∀ (k r : Nat), r < 10 ^ (k + 1) → Lib.nDigits r ≤ k + 1 := by
    intro k
    induction k with
    | zero => intro r h; rw [Lib.nDigits_small (by simpa using h)]; exact Nat.le_refl _
    | succ k ih =>
      intro r h
      by_cases h10 : r < 10
      · rw [Lib.nDigits_small h10]; omega
      · rw [Lib.nDigits_big h10]
        have := ih (r / 10) (by rw [Nat.pow_succ] at h; omega)
        omega
  exact key 18 r hr
theorem new2 (w : World) (o : Obj) (a b : Value) (t : TypeId) : ((w.alloc o).alloc (Obj.cells #[a, b] t)).heap[w.heap.size + 1]? = some (.cells #[a, b] t (0, 0)) := by
  have h3 := heap_alloc_new (w.alloc o) (Obj.cells #[a, b] t)
  simp only [World.size_alloc] at h3
  exact h3

set_option maxHeartbeats 400000 in
theorem text_short (h l : Int) (wf : Wf h l) (w : World) (htab : Lib.TabBelow Tryd.prog w.heap.size w "internal/strconv.uint64pow10" .u64 Lib.pow10Tab) (q r : Nat) (hq : q = 0) (hr : r < 10000000000000000000) (hd : ∀ w, Calls Tryd.prog 36 #[.int .u64 (sH h l), .int .u64 (sL h l), .int .u64 10000000000000000000] w fun e w' => e = .returned (.tuple #[.int .u64 (q : Int), .int .u64 (r : Int)]) ∧ Below w.heap.size w w') :
    Calls Tryd.prog 25 #[.agg #[.int .i64 h, .int .u64 l]] w fun e w' => e = .returned (.string ⟨(if ng h = true then 45 :: Lib.decDigits r else Lib.decDigits r).toArray⟩) ∧ Below w.heap.size w w' := by
  have hsz := size_any h l wf
  have HS := Lib.hid hsz
  have hfm := fun W hW => fmt_any r (by omega) W hW
  have HF := Lib.hid hfm
  have HD := Lib.hid hd
  have hlen := digits19 hr
  have hadd : ∀ W, (Op.stringOp .add ⟨#[45]⟩ ⟨(Lib.decDigits r).toArray⟩).run Tryd.prog W = .ok (.string ⟨(45 :: Lib.decDigits r).toArray⟩) W := fun W =>
    run_string_add_lists W [45] (Lib.decDigits r) (by simp) (by rw [Lib.decDigits_length]; omega)
  clear hsz hd hfm wf hr hlen
  subst hq
  cases hn : ng h
  all_goals
    go_enter Tryd.func25, Tryd.ntmps25
    go_wp2_with (first
      | (go_at_call 35; go_must (refine (HS.out _).mono ?_; rintro e w1 ⟨rfl, hB1⟩; have hb1 : Below w.heap.size w w1 := Below.trans (by go_grown) (hB1.mono (by simp only [World.size_alloc]; omega)); have k1 := Lib.hid ((hB1.block _ (by simp only [World.size_alloc]; omega)).trans (new2 w _ _ _ _))))
      | (go_at_call 36; go_must (refine (HD.out _).mono ?_; rintro e w2 ⟨rfl, hB2⟩; have hb2 : Below w.heap.size w w2 := Below.trans hb1 (hB2.mono hb1.size); have k2 := Lib.hid ((hB2.block _ (blk_lt k1.out)).trans k1.out)))
      | (go_at_call 37; go_must (refine (HF.out _ (htab _ hb2)).mono ?_; rintro e w3 ⟨rfl, hB3⟩; have hb3 : Below w.heap.size w w3 := Below.trans hb2 (hB3.mono hb2.size); obtain ⟨⟨c0, c1, z0, z1⟩, -⟩ := pair_facts ((hB3.block _ (blk_lt k2.out)).trans k2.out)))
      | (go_at_call 39; go_must (refine (neg_exact _ _ _).mono ?_; rintro e w4 ⟨rfl, rfl⟩)))
    go_ret
    exact ⟨rfl, hb3.alloc hb3.size _⟩

/-- What the digits of the higher part, the zeros between and the digits of the lower part are together. -/
def longDigits (q r : Nat) : List UInt8 := Lib.decDigits q ++ (List.replicate (19 - Lib.nDigits r) 48 ++ Lib.decDigits r)

set_option maxHeartbeats 400000 in
theorem text_long (h l : Int) (wf : Wf h l) (w : World) (htab : Lib.TabBelow Tryd.prog w.heap.size w "internal/strconv.uint64pow10" .u64 Lib.pow10Tab) (q r : Nat) (hq : 0 < q) (hq1 : q < 18446744073709551616) (hr : r < 10000000000000000000) (hd : ∀ w, Calls Tryd.prog 36 #[.int .u64 (sH h l), .int .u64 (sL h l), .int .u64 10000000000000000000] w fun e w' => e = .returned (.tuple #[.int .u64 (q : Int), .int .u64 (r : Int)]) ∧ Below w.heap.size w w') :
    Calls Tryd.prog 25 #[.agg #[.int .i64 h, .int .u64 l]] w fun e w' => e = .returned (.string ⟨(if ng h = true then 45 :: longDigits q r else longDigits q r).toArray⟩) ∧ Below w.heap.size w w' := by
  have hsz := size_any h l wf
  have HS := Lib.hid hsz
  have hfr := fun W hW => fmt_any r (by omega) W hW
  have HFr := Lib.hid hfr
  have hfq := fun W hW => fmt_any q hq1 W hW
  have HFq := Lib.hid hfq
  have HD := Lib.hid hd
  have hl := digits19 hr
  have hl0 := Lib.nDigits_pos r
  have hlq := Lib.nDigits_le20 q hq1
  have hrep := fun W => Tryd.strings_Repeat ⟨#[48]⟩ (19 - Lib.nDigits r) W (by omega) (by simp [ByteArray.size]; omega)
  have e19 : ((19 - Lib.nDigits r : Nat) : Int) = 19 - (Lib.nDigits r : Int) := by omega
  simp only [repeat_zeros, e19] at hrep
  obtain ⟨Z, hZ, hZl⟩ : ∃ Z, List.replicate (19 - Lib.nDigits r) (48 : UInt8) = Z ∧ Z.length = 19 - Lib.nDigits r := ⟨_, rfl, List.length_replicate⟩
  rw [hZ] at hrep
  have HR := Lib.hid hrep
  have hlen : ((Lib.decDigits r).length : Int) = (Lib.nDigits r : Int) := by rw [Lib.decDigits_length]
  have hadd1 : ∀ W, (Op.stringOp .add ⟨(Lib.decDigits q).toArray⟩ ⟨Z.toArray⟩).run Tryd.prog W = .ok (.string ⟨(Lib.decDigits q ++ Z).toArray⟩) W := fun W =>
    run_string_add_lists W _ _ (by rw [Lib.decDigits_length]; omega) (by omega)
  have hadd2 : ∀ W, (Op.stringOp .add ⟨(Lib.decDigits q ++ Z).toArray⟩ ⟨(Lib.decDigits r).toArray⟩).run Tryd.prog W = .ok (.string ⟨(longDigits q r).toArray⟩) W := fun W => by
    rw [run_string_add_lists W _ _ (by simp [Lib.decDigits_length]; omega) (by rw [Lib.decDigits_length]; omega)]
    unfold longDigits
    rw [hZ, List.append_assoc]
  have hadd3 : ∀ W, (Op.stringOp .add ⟨#[45]⟩ ⟨(longDigits q r).toArray⟩).run Tryd.prog W = .ok (.string ⟨(45 :: longDigits q r).toArray⟩) W := fun W =>
    run_string_add_lists W [45] (longDigits q r) (by simp) (by unfold longDigits; simp [Lib.decDigits_length]; omega)
  have A1 := Lib.hid hadd1
  have A2 := Lib.hid hadd2
  have A3 := Lib.hid hadd3
  have HL := Lib.hid hlen
  clear hsz hfr hfq hd hrep hadd1 hadd2 hadd3 hlen wf hr hq1 e19 hZ hZl
  cases hn : ng h
  all_goals
    go_enter Tryd.func25, Tryd.ntmps25
    go_wp2_with fail
    go_at_call 35
    refine (HS.out _).mono ?_
    rintro e w1 ⟨rfl, hB1⟩
    have hb1 : Below w.heap.size w w1 := Below.trans (by go_grown) (hB1.mono (by simp only [World.size_alloc]; omega))
    have k1 := Lib.hid ((hB1.block _ (by simp only [World.size_alloc]; omega)).trans (new2 w _ _ _ _))
    clear hB1
    go_wp2_with fail
    go_at_call 36
    refine (HD.out _).mono ?_
    rintro e w2 ⟨rfl, hB2⟩
    have hb2 : Below w.heap.size w w2 := Below.trans hb1 (hB2.mono hb1.size)
    have k2 := Lib.hid ((hB2.block _ (blk_lt k1.out)).trans k1.out)
    clear hB2 hb1 k1
    go_wp2_with fail
    go_at_call 37
    refine (HFr.out _ (htab _ hb2)).mono ?_
    rintro e w3 ⟨rfl, hB3⟩
    have hb3 : Below w.heap.size w w3 := Below.trans hb2 (hB3.mono hb2.size)
    have k3 := Lib.hid ((hB3.block _ (blk_lt k2.out)).trans k2.out)
    clear hB3 hb2 k2
    go_wp2_with fail
    go_at_call 37
    refine (HFq.out _ (htab _ hb3)).mono ?_
    rintro e w4 ⟨rfl, hB4⟩
    have hb4 : Below w.heap.size w w4 := Below.trans hb3 (hB4.mono hb3.size)
    have k4 := Lib.hid ((hB4.block _ (blk_lt k3.out)).trans k3.out)
    clear hB4 hb3 k3
    have hlen := HL.out
    go_wp2_with fail
    go_at_call 38
    refine (HR.out _).mono ?_
    rintro e w5 ⟨rfl, hB5⟩
    have hb5 : Below w.heap.size w w5 := Below.trans hb4 (hB5.mono hb4.size)
    obtain ⟨⟨c0, c1, z0, z1⟩, -⟩ := pair_facts ((hB5.block _ (blk_lt k4.out)).trans k4.out)
    clear hB5 hb4 k4 hlen hl hl0 hlq
    have hadd1 := A1.out
    have hadd2 := A2.out
    have hadd3 := A3.out
    go_wp2_with (go_at_call 39; go_must (refine (neg_exact _ _ _).mono ?_; rintro e w6 ⟨rfl, rfl⟩))
    go_ret
    exact ⟨rfl, hb5.alloc hb5.size _⟩

theorem text_any (h l : Int) (wf : Wf h l) (w : World) (htab : Lib.TabBelow Tryd.prog w.heap.size w "internal/strconv.uint64pow10" .u64 Lib.pow10Tab) :
    Calls Tryd.prog 25 #[.agg #[.int .i64 h, .int .u64 l]] w fun e w' => e = .returned (.string ⟨(digs h l).toArray⟩) ∧ Below w.heap.size w w' := by
  obtain ⟨q, r, hN, hr, hq, hd⟩ := div_nat h l wf
  rw [digs_of wf, nat_digits hN hr]
  by_cases h0 : q = 0
  · rw [if_pos h0]; exact text_short h l wf w htab q r h0 hr hd
  · rw [if_neg h0]; exact text_long h l wf w htab q r (by omega) hq hr hd

set_option maxHeartbeats 400000 in
theorem answers_any (w : World) (htab : Lib.TabBelow Tryd.prog w.heap.size w "internal/strconv.uint64pow10" .u64 Lib.pow10Tab) :
    Calls Tryd.prog 10 #[] w fun e w' => e = .returned (.bool true) ∧ Below w.heap.size w w' := by
  have ht := fun W hW => text_any (hiOf (-3 * 4)) (loOf (-3 * 4)) (wf_of (by decide)) W hW
  have e : digs (hiOf (-3 * 4)) (loOf (-3 * 4)) = [45, 49, 50] := by
    unfold digs; rw [val_of]
    unfold Lib.itoa
    rw [if_pos (by decide)]
    rw [show Int.natAbs (-3 * 4) = 12 from rfl, Lib.decDigits_two (by omega) (by omega)]
    rfl
  rw [e] at ht
  have HT := Lib.hid ht
  clear ht e
  go_enter Tryd.func10, Tryd.ntmps10
  go_wp2_with (first | (go_at_call 13; go_must (refine (mul_any (-3) 4 _ (by omega) (by omega) (by omega) (by omega)).mono ?_; rintro e w1 ⟨rfl, hB1⟩)) | (go_at_call 25; go_must (refine (HT.out _ (fun w' hb => htab w' (hB1.trans (hb.mono hB1.size)))).mono ?_; rintro e w2 ⟨rfl, hB2⟩)))
  go_ret
  exact ⟨rfl, hB1.trans (hB2.mono hB1.size)⟩
end Go.Proofs.YtchhhaiokpecjaaDoor
