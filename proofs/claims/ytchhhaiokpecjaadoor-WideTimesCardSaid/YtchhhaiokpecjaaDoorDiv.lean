/- The contract of math/bits.Div64 at the divisor ten to the nineteenth: quotient and remainder of a number in two words. -/
import Derived.Test.YtchhhaiokpecjaaDoorSums
import Derived.Test.YtchhhaiokpecjaaDoorDivs
import Derived.BigQuiet
import Derived.Deep.DeepCutAuto
import Derived.Deep.LoopGhost
import Derived.Laws.MathBits
namespace Go.Proofs.YtchhhaiokpecjaaDoor
open Go.RowKit

theorem lz_any (w : World) :
    Calls Tryd.prog 42 #[.int .u64 ten19] w fun e w' => e = .returned (.int .i64 0) ∧ w = w' := by
  refine (Tryd.bits_LeadingZeros64 ten19 w (by unfold ten19; omega) (by unfold ten19; omega)).mono fun e w' ⟨he, hw⟩ => ⟨?_, hw.symm⟩
  rw [he]
  have e1 : (64 - (Lib.bitLen ten19.toNat : Int)) = 0 := by decide +kernel
  rw [e1]

theorem ten_pos : (ten19 == 0) = false := by decide +kernel
theorem ten_wrap : IntKind.u64.wrap ten19 = ten19 := by decide +kernel
theorem ten_hi : ten19 / 4294967296 = y1 := by decide +kernel
theorem ten_lo : bits BinOp.and IntKind.u64 ten19 4294967295 = y0 := by decide +kernel
theorem low_half (lo : Int) (h0 : 0 ≤ lo) (h3 : lo < 18446744073709551616) : bits BinOp.and IntKind.u64 lo 4294967295 = lo % 4294967296 := and_low32 lo h0 h3
theorem or_zero (x : Int) (h0 : 0 ≤ x) (h3 : x < 18446744073709551616) : bits BinOp.or IntKind.u64 (IntKind.u64.wrap x) 0 = x := by
  rw [show IntKind.u64.wrap x = x from by rw [IntKind.wrap_u64]; omega]
  obtain ⟨a, rfl⟩ := Int.eq_ofNat_of_zero_le h0
  have h := bits_or_u64_nat a 0 (by omega) (by omega)
  simpa using h

theorem below_drewN {B : Nat} {a w : World} (h : Below B a w) (n : Nat) : Below B a (w.drewN n) := ⟨h.os, h.tape, h.output, h.size, h.block⟩
theorem tdiv_wrap (lo : Int) (h0 : 0 ≤ lo) (h3 : lo < 18446744073709551616) : IntKind.u64.wrap (lo.tdiv ten19) = lo / ten19 := by
  rw [IntKind.wrap_u64, Int.tdiv_eq_ediv_of_nonneg h0]
  unfold ten19
  omega
theorem tdiv_y1 (U : Int) (h0 : 0 ≤ U) (h3 : U < 18446744073709551616) : IntKind.u64.wrap (U.tdiv y1) = U / 2328306436 := by
  rw [IntKind.wrap_u64, Int.tdiv_eq_ediv_of_nonneg h0]
  unfold y1
  omega
theorem left_y1 (U : Int) (_h0 : 0 ≤ U) (_h3 : U < 18446744073709551616) : IntKind.u64.wrap (U - IntKind.u64.wrap (U / 2328306436 * y1)) = U - U / 2328306436 * 2328306436 := by
  rw [IntKind.wrap_u64, IntKind.wrap_u64]
  unfold y1
  omega
/-- What a round reckons with a guess: none of it goes round. -/
theorem guess_words {U u q r : Int} (f : Fits U u) (g : Guess U u q r) :
    IntKind.u64.wrap (q * y0) = q * y0 ∧ IntKind.u64.wrap (4294967296 * r) = 4294967296 * r ∧ IntKind.u64.wrap (4294967296 * r + u) = 4294967296 * r + u ∧ IntKind.u64.wrap (r + y1) = r + y1 := by
  unfold Fits at f
  obtain ⟨-, r0, r1, -, q1, q0⟩ := g
  simp only [IntKind.wrap_u64, y0, y1]
  omega

set_option maxHeartbeats 400000 in
theorem div_low (lo : Int) (h0 : 0 ≤ lo) (h3 : lo < 18446744073709551616) (w : World) :
    Calls Tryd.prog 36 #[.int .u64 0, .int .u64 lo, .int .u64 ten19] w fun e w' => e = .returned (.tuple #[.int .u64 (lo / ten19), .int .u64 (lo % ten19)]) ∧ Below w.heap.size w w' := by
  have e1 := ten_pos
  have e2 : decide (ten19 ≤ 0) = false := by decide +kernel
  have e3 : 0 < ten19 := by decide +kernel
  go_enter Tryd.func36, Tryd.ntmps36
  go_wp2
  go_quiet (fail)
  go_wp2
  go_ret2

  exact ⟨rfl, below_drewN (Below.refl _ _) _⟩

set_option maxHeartbeats 400000 in
theorem div_high (hi lo : Int) (h1 : 0 < hi) (h2 : hi < ten19) (h0 : 0 ≤ lo) (h3 : lo < 18446744073709551616) (w : World) :
    Calls Tryd.prog 36 #[.int .u64 hi, .int .u64 lo, .int .u64 ten19] w fun e w' => e = .returned (.tuple #[.int .u64 (dQ hi lo), .int .u64 (dR hi lo)]) ∧ w = w' := by
  have e1 := ten_pos
  have e2 : decide (ten19 ≤ hi) = false := by simp; omega
  have e3 : (hi == 0) = false := by simp; omega
  have e4 : lo / 18446744073709551616 = 0 := by omega
  have e5 := or_zero hi (by omega) (by unfold ten19 at h2; omega)
  have e6 := low_half lo h0 h3
  have E4 := Lib.hid e4
  clear e4
  go_enter Tryd.func36, Tryd.ntmps36
  go_upto_block 0 with (go_at_call 42; refine (lz_any _).mono ?_; rintro e w' ⟨rfl, rfl⟩)
  simp only [E4.out, e5, ten_wrap, ten_hi, ten_lo]
  rw [tdiv_y1 hi (by omega) (by unfold ten19 at h2; omega), left_y1 hi (by omega) (by unfold ten19 at h2; omega)]
  have F1 := Lib.hid (fits_high (hi := hi) (lo := lo) (by omega) (by unfold ten19 at h2; omega) h0 h3)
  have F0 := Lib.hid (fits_low hi (lo / 4294967296) lo)
  have HW := Lib.hid (whole_quo F1.out h0 h3)
  have G1 := Lib.hid (guess_start F1.out)
  clear e5 e6 h0 h3 E4 e1 e2 e3 h1 h2
  generalize lo / 4294967296 = u1 at *
  generalize lo % 4294967296 = u0 at *
  generalize hi - hi / 2328306436 * 2328306436 = r1 at *
  generalize hi / 2328306436 = q1 at *
  go_cut [15, 16] (fun q r wx => q = .int .u64 (hQ hi u1) ∧ w = wx)
  case first =>
    go_wp2_with fail
    go_loop [15, 16] (fun v r => ∃ x y : Int, v = .int .u64 x ∧ r = .int .u64 y ∧ Hid (Guess hi u1 x y)) (fun v _ => (intOf v).toNat)
    case atStart => exact ⟨_, _, rfl, rfl, G1⟩
    case round =>
      obtain ⟨x, y, rfl, rfl, g⟩ := hrel
      obtain ⟨t1, t2, t3, t4⟩ := guess_words F1.out g.out
      have hx0 : 0 ≤ x := g.out.2.2.2.2.2
      have hx1 : x ≤ 4294967297 := g.out.2.2.2.2.1
      cases c1 : decide (4294967296 ≤ x) <;> cases c2 : decide (4294967296 * y + u1 < x * y0)
      · have e : Hid (x = hQ hi u1) := guess_done F1.out g.out (by unfold over; unfold y0 at c2; rw [c1, c2]; rfl)
        go_wp2
        go_meet
        exact ⟨by rw [e.out], rfl⟩
      all_goals
        have ho : over u1 x y = true := by unfold over; unfold y0 at c2; rw [c1, c2]; rfl
        have hx2 : 1 ≤ x := by have h1 := guess_over F1.out g.out ho; have h2 := hQ_nonneg F1.out; omega
        cases c3 : decide (4294967296 ≤ y + y1)
        · have e := Lib.hid (guess_next F1.out g.out ho (by unfold y1 at c3; simpa using c3))
          go_wp2
          go_round
          case rel => exact ⟨x - 1, y + y1, rfl, rfl, e⟩
          case measure => simp [intOf]; omega
        · have e := Lib.hid (guess_break F1.out g.out ho (by unfold y1 at c3; simpa using c3))
          go_wp2
          go_meet
          exact ⟨by rw [e.out], rfl⟩
  case rest =>
    obtain ⟨rfl, rfl⟩ := hcut
    have hr0 := hR_bd hi u1
    have EH : IntKind.u64.wrap (IntKind.u64.wrap (IntKind.u64.wrap (hi * 4294967296) + u1) - IntKind.u64.wrap (hQ hi u1 * ten19)) = hR hi u1 := by
      simp only [wrap_uw]; unfold ten19; exact half_left F1.out
    have HEH := Lib.hid EH
    have G2 := Lib.hid (guess_start F0.out)
    clear EH G1
    go_upto_block 2 with (fail)
    rw [HEH.out, tdiv_y1 (hR hi u1) (by omega) (by omega), left_y1 (hR hi u1) (by omega) (by omega)]
    generalize hR hi u1 - hR hi u1 / 2328306436 * 2328306436 = r2 at *
    generalize hR hi u1 / 2328306436 = q2 at *
    go_cut [18, 16] (fun q r wx => q = .int .u64 (hQ (hR hi u1) u0) ∧ w = wx)
    case first =>
      go_wp2_with fail
      go_loop [18, 16] (fun v r => ∃ x y : Int, v = .int .u64 x ∧ r = .int .u64 y ∧ Hid (Guess (hR hi u1) u0 x y)) (fun v _ => (intOf v).toNat)
      case atStart => exact ⟨_, _, rfl, rfl, G2⟩
      case round =>
        obtain ⟨x, y, rfl, rfl, g⟩ := hrel
        obtain ⟨t1, t2, t3, t4⟩ := guess_words F0.out g.out
        have hx0 : 0 ≤ x := g.out.2.2.2.2.2
        have hx1 : x ≤ 4294967297 := g.out.2.2.2.2.1
        cases c1 : decide (4294967296 ≤ x) <;> cases c2 : decide (4294967296 * y + u0 < x * y0)
        · have e : Hid (x = hQ (hR hi u1) u0) := guess_done F0.out g.out (by unfold over; unfold y0 at c2; rw [c1, c2]; rfl)
          go_wp2
          go_meet
          exact ⟨by rw [e.out], rfl⟩
        all_goals
          have ho : over u0 x y = true := by unfold over; unfold y0 at c2; rw [c1, c2]; rfl
          have hx2 : 1 ≤ x := by have h1 := guess_over F0.out g.out ho; have h2 := hQ_nonneg F0.out; omega
          cases c3 : decide (4294967296 ≤ y + y1)
          · have e := Lib.hid (guess_next F0.out g.out ho (by unfold y1 at c3; simpa using c3))
            go_wp2
            go_round
            case rel => exact ⟨x - 1, y + y1, rfl, rfl, e⟩
            case measure => simp [intOf]; omega
          · have e := Lib.hid (guess_break F0.out g.out ho (by unfold y1 at c3; simpa using c3))
            go_wp2
            go_meet
            exact ⟨by rw [e.out], rfl⟩
    case rest =>
      obtain ⟨rfl, rfl⟩ := hcut
      go_wp2
      go_ret2
      have a1 : IntKind.u64.wrap (IntKind.u64.wrap (hQ hi u1 * 4294967296) + hQ (hR hi u1) u0) = dQ hi lo := by simp only [wrap_uw]; exact HW.out.1
      have a2 : IntKind.u64.wrap (IntKind.u64.wrap (IntKind.u64.wrap (hR hi u1 * 4294967296) + u0) - IntKind.u64.wrap (hQ (hR hi u1) u0 * ten19)) = dR hi lo := by
        simp only [wrap_uw]; unfold ten19; rw [half_left F0.out]; exact HW.out.2
      rw [a1, a2]
      exact ⟨rfl, rfl⟩
end Go.Proofs.YtchhhaiokpecjaaDoor
