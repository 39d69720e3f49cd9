/- The contracts of the program's calls Cross, Turn, On and Square, of any points. -/
import Derived.Test.YtkkdjbmdfpmkpaaMeets3
namespace Go.Proofs.Ytkkdjbmdfpmkpaa
open Go.RowKit

/-- What a square's calls come to: the differences, the two products, and their sum. -/
theorem sqr_calls {a b : Int × Int} (ha : Gd a) (hb : Gd b) : Hid (IntKind.i64.wrap (b.1 - a.1) = b.1 - a.1) ∧ Hid (IntKind.i64.wrap (b.2 - a.2) = b.2 - a.2) ∧
    Hid (∀ W, Calls Try.prog 65 #[.int .i64 (b.1 - a.1), .int .i64 (b.1 - a.1)] W fun e w' => e = .returned (.agg #[.int .i64 (hiOf ((b.1 - a.1) * (b.1 - a.1))), .int .u64 (loOf ((b.1 - a.1) * (b.1 - a.1)))]) ∧ Below W.heap.size W w') ∧
    Hid (∀ W, Calls Try.prog 65 #[.int .i64 (b.2 - a.2), .int .i64 (b.2 - a.2)] W fun e w' => e = .returned (.agg #[.int .i64 (hiOf ((b.2 - a.2) * (b.2 - a.2))), .int .u64 (loOf ((b.2 - a.2) * (b.2 - a.2)))]) ∧ Below W.heap.size W w') ∧
    Hid (∀ W, Calls Try.prog 22 #[.agg #[.int .i64 (hiOf ((b.1 - a.1) * (b.1 - a.1))), .int .u64 (loOf ((b.1 - a.1) * (b.1 - a.1)))], .agg #[.int .i64 (hiOf ((b.2 - a.2) * (b.2 - a.2))), .int .u64 (loOf ((b.2 - a.2) * (b.2 - a.2)))]] W fun e w' => e = .returned (.tuple #[.agg #[.int .i64 (hiOf (sqr a b)), .int .u64 (loOf (sqr a b))], .int .i64 0]) ∧ Below W.heap.size W w') := by
  have hl := sqr_lim ha hb
  have i3 : InR (sqr a b) := by unfold InR; omega
  unfold Gd at ha hb
  have l1 := mul_lim (x := b.1 - a.1) (y := b.1 - a.1) (P := 2147483648) (Q := 2147483648) (by omega) (by omega)
  have l2 := mul_lim (x := b.2 - a.2) (y := b.2 - a.2) (P := 2147483648) (Q := 2147483648) (by omega) (by omega)
  have i1 : InR ((b.1 - a.1) * (b.1 - a.1)) := by unfold InR; omega
  have i2 : InR ((b.2 - a.2) * (b.2 - a.2)) := by unfold InR; omega
  obtain ⟨s1, s2, s3⟩ := add_of i1 i2 i3
  have hs := fun W => add_any _ _ _ _ (wf_of i1) (wf_of i2) W
  rw [s1, s2, s3] at hs
  exact ⟨wrap_in (by omega) (by omega), wrap_in (by omega) (by omega), fun W => mul_any _ _ W (by omega) (by omega) (by omega) (by omega), fun W => mul_any _ _ W (by omega) (by omega) (by omega) (by omega), hs⟩

section
variable (a b c : Int × Int)

set_option maxHeartbeats 800000 in
theorem Turn_bad (hg : gdL [a, b, c] = false) (w : World) :
    Calls Try.prog 60 #[.agg #[.int .i64 a.1, .int .i64 a.2], .agg #[.int .i64 b.1, .int .i64 b.2], .agg #[.int .i64 c.1, .int .i64 c.2]] w fun e w' => e = .returned (.tuple #[.int .i64 0, .int .i64 3]) ∧ Below w.heap.size w w' := by
  have HQ := Hold.three0 w a b c
  go_enter Try.func60, Try.ntmps60
  go_upto_region 1 with (fail)
  generalize (World.alloc _ _) = W1 at HQ ⊢
  generalize w.heap.size + 1 + 1 = g2 at HQ ⊢
  generalize w.heap.size + 1 = g1 at HQ ⊢
  obtain ⟨f0, f1, f2, f3, f4, f5⟩ := HQ.rd3
  go_wp2_with fail
  go_at_call 25
  refine (good_three a b c _ _ _).mono ?_
  rintro e w1 ⟨rfl, hB⟩
  replace HQ := (HQ.alloc _).on (hB.mono (by simp only [World.size_alloc]; omega))
  clear hB f0 f1 f2 f3 f4 f5
  go_wp2
  go_ret2
  exact ⟨rfl, HQ.1⟩

set_option maxHeartbeats 800000 in
theorem Turn_good (hg : gdL [a, b, c] = true) (w : World) :
    Calls Try.prog 60 #[.agg #[.int .i64 a.1, .int .i64 a.2], .agg #[.int .i64 b.1, .int .i64 b.2], .agg #[.int .i64 c.1, .int .i64 c.2]] w fun e w' => e = .returned (.tuple #[.int .i64 (sgn (crs a b c)), .int .i64 0]) ∧ Below w.heap.size w w' := by
  obtain ⟨ha, hb, hc⟩ := gdL_three.1 hg
  have hx := fun W => turn_any a b c ha hb hc W
  have HX := Lib.hid hx
  clear hx ha hb hc
  have HQ := Hold.three0 w a b c
  go_enter Try.func60, Try.ntmps60
  go_upto_region 1 with (fail)
  generalize (World.alloc _ _) = W1 at HQ ⊢
  generalize w.heap.size + 1 + 1 = g2 at HQ ⊢
  generalize w.heap.size + 1 = g1 at HQ ⊢
  obtain ⟨f0, f1, f2, f3, f4, f5⟩ := HQ.rd3
  go_wp2_with fail
  go_at_call 25
  refine (good_three a b c _ _ _).mono ?_
  rintro e w1 ⟨rfl, hB⟩
  replace HQ := (HQ.alloc _).on (hB.mono (by simp only [World.size_alloc]; omega))
  clear hB f0 f1 f2 f3 f4 f5
  obtain ⟨f0, f1, f2, f3, f4, f5⟩ := HQ.rd3
  go_wp2_with fail
  go_at_call 70
  refine (HX.out _).mono ?_
  rintro e w2 ⟨rfl, hB⟩
  replace HQ := HQ.on hB
  clear hB f0 f1 f2 f3 f4 f5
  go_wp2
  go_ret2
  exact ⟨rfl, HQ.1⟩

set_option maxHeartbeats 800000 in
theorem On_bad (hg : gdL [a, b, c] = false) (w : World) :
    Calls Try.prog 36 #[.agg #[.int .i64 a.1, .int .i64 a.2], .agg #[.int .i64 b.1, .int .i64 b.2], .agg #[.int .i64 c.1, .int .i64 c.2]] w fun e w' => e = .returned (.tuple #[.bool false, .int .i64 3]) ∧ Below w.heap.size w w' := by
  have HQ := Hold.three0 w a b c
  go_enter Try.func36, Try.ntmps36
  go_upto_region 1 with (fail)
  generalize (World.alloc _ _) = W1 at HQ ⊢
  generalize w.heap.size + 1 + 1 = g2 at HQ ⊢
  generalize w.heap.size + 1 = g1 at HQ ⊢
  obtain ⟨f0, f1, f2, f3, f4, f5⟩ := HQ.rd3
  go_wp2_with fail
  go_at_call 25
  refine (good_three a b c _ _ _).mono ?_
  rintro e w1 ⟨rfl, hB⟩
  replace HQ := (HQ.alloc _).on (hB.mono (by simp only [World.size_alloc]; omega))
  clear hB f0 f1 f2 f3 f4 f5
  go_wp2
  go_ret2
  exact ⟨rfl, HQ.1⟩

set_option maxHeartbeats 800000 in
theorem On_good (hg : gdL [a, b, c] = true) (w : World) :
    Calls Try.prog 36 #[.agg #[.int .i64 a.1, .int .i64 a.2], .agg #[.int .i64 b.1, .int .i64 b.2], .agg #[.int .i64 c.1, .int .i64 c.2]] w fun e w' => e = .returned (.tuple #[.bool (onB a b c), .int .i64 0]) ∧ Below w.heap.size w w' := by
  obtain ⟨ha, hb, hc⟩ := gdL_three.1 hg
  have hx := fun W => on_any a b c ha hb hc W
  have HX := Lib.hid hx
  clear hx ha hb hc
  have HQ := Hold.three0 w a b c
  go_enter Try.func36, Try.ntmps36
  go_upto_region 1 with (fail)
  generalize (World.alloc _ _) = W1 at HQ ⊢
  generalize w.heap.size + 1 + 1 = g2 at HQ ⊢
  generalize w.heap.size + 1 = g1 at HQ ⊢
  obtain ⟨f0, f1, f2, f3, f4, f5⟩ := HQ.rd3
  go_wp2_with fail
  go_at_call 25
  refine (good_three a b c _ _ _).mono ?_
  rintro e w1 ⟨rfl, hB⟩
  replace HQ := (HQ.alloc _).on (hB.mono (by simp only [World.size_alloc]; omega))
  clear hB f0 f1 f2 f3 f4 f5
  obtain ⟨f0, f1, f2, f3, f4, f5⟩ := HQ.rd3
  go_wp2_with fail
  go_at_call 59
  refine (HX.out _).mono ?_
  rintro e w2 ⟨rfl, hB⟩
  replace HQ := HQ.on hB
  clear hB f0 f1 f2 f3 f4 f5
  go_wp2
  go_ret2
  exact ⟨rfl, HQ.1⟩

set_option maxHeartbeats 800000 in
theorem Cross_bad (hg : gdL [a, b, c] = false) (w : World) :
    Calls Try.prog 27 #[.agg #[.int .i64 a.1, .int .i64 a.2], .agg #[.int .i64 b.1, .int .i64 b.2], .agg #[.int .i64 c.1, .int .i64 c.2]] w fun e w' => e = .returned (.tuple #[.agg #[.int .i64 0, .int .u64 0], .int .i64 3]) ∧ Below w.heap.size w w' := by
  have HQ := (Hold.three0 w a b c).new' #[.int .i64 0, .int .u64 0] 26 (n := w.heap.size + 1 + 1 + 1) (by simp only [World.size_alloc])
  go_enter Try.func27, Try.ntmps27
  go_upto_region 1 with (fail)
  generalize (World.alloc _ _) = W1 at HQ ⊢
  generalize w.heap.size + 1 + 1 + 1 = g3 at HQ ⊢
  generalize w.heap.size + 1 + 1 = g2 at HQ ⊢
  generalize w.heap.size + 1 = g1 at HQ ⊢
  obtain ⟨f0, f1, f2, f3, f4, f5⟩ := HQ.tail.rd3
  go_wp2_with fail
  go_at_call 25
  refine (good_three a b c _ _ _).mono ?_
  rintro e w1 ⟨rfl, hB⟩
  replace HQ := (HQ.alloc _).on (hB.mono (by simp only [World.size_alloc]; omega))
  clear hB f0 f1 f2 f3 f4 f5
  obtain ⟨k0, k1, k2, k3⟩ := HQ.top
  have HE := HQ.set2 (.int .i64 0) (.int .u64 0)
  obtain ⟨n1, n2, -, -⟩ := HE.top
  have HF := Lib.hid HE.1
  clear HE HQ
  go_wp2
  refine bodyPost_ret (v := .tuple #[.agg #[.int .i64 0, .int .u64 0], .int .i64 3]) ?_ rfl ⟨rfl, HF.out⟩
  simp [results, Try.results27, go_sem, n1, n2]

set_option maxHeartbeats 800000 in
theorem Cross_good (hg : gdL [a, b, c] = true) (w : World) :
    Calls Try.prog 27 #[.agg #[.int .i64 a.1, .int .i64 a.2], .agg #[.int .i64 b.1, .int .i64 b.2], .agg #[.int .i64 c.1, .int .i64 c.2]] w fun e w' => e = .returned (.tuple #[.agg #[.int .i64 (hiOf (crs a b c)), .int .u64 (loOf (crs a b c))], .int .i64 0]) ∧ Below w.heap.size w w' := by
  obtain ⟨ha, hb, hc⟩ := gdL_three.1 hg
  have hx := fun W => cross_any a b c ha hb hc W
  have HX := Lib.hid hx
  clear hx ha hb hc
  have HQ := (Hold.three0 w a b c).new' #[.int .i64 0, .int .u64 0] 26 (n := w.heap.size + 1 + 1 + 1) (by simp only [World.size_alloc])
  go_enter Try.func27, Try.ntmps27
  go_upto_region 1 with (fail)
  generalize (World.alloc _ _) = W1 at HQ ⊢
  generalize w.heap.size + 1 + 1 + 1 = g3 at HQ ⊢
  generalize w.heap.size + 1 + 1 = g2 at HQ ⊢
  generalize w.heap.size + 1 = g1 at HQ ⊢
  obtain ⟨f0, f1, f2, f3, f4, f5⟩ := HQ.tail.rd3
  go_wp2_with fail
  go_at_call 25
  refine (good_three a b c _ _ _).mono ?_
  rintro e w1 ⟨rfl, hB⟩
  replace HQ := (HQ.alloc _).on (hB.mono (by simp only [World.size_alloc]; omega))
  clear hB f0 f1 f2 f3 f4 f5
  obtain ⟨f0, f1, f2, f3, f4, f5⟩ := HQ.tail.rd3
  go_wp2_with fail
  go_at_call 49
  refine (HX.out _).mono ?_
  rintro e w2 ⟨rfl, hB⟩
  replace HQ := HQ.on hB
  clear hB f0 f1 f2 f3 f4 f5
  obtain ⟨k0, k1, k2, k3⟩ := HQ.top
  have HE := HQ.set2 (.int .i64 (hiOf (crs a b c))) (.int .u64 (loOf (crs a b c)))
  obtain ⟨n1, n2, -, -⟩ := HE.top
  have HF := Lib.hid HE.1
  clear HE HQ
  go_wp2
  refine bodyPost_ret (v := .tuple #[.agg #[.int .i64 (hiOf (crs a b c)), .int .u64 (loOf (crs a b c))], .int .i64 0]) ?_ rfl ⟨rfl, HF.out⟩
  simp [results, Try.results27, go_sem, n1, n2]

end
end Go.Proofs.Ytkkdjbmdfpmkpaa
