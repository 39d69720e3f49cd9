/- The contracts of the program's calls Cross, Turn, On and Square, of any points. -/
import Derived.Test.YtoabooljgojoiaaGreatMeets3
import Derived.Test.YtoabooljgojoiaaGreatGeoR1
namespace Go.Proofs.YtoabooljgojoiaaGreat
open Go.RowKit

theorem sqr_calls {a b : Int × Int} (ha : Gd a) (hb : Gd b) : Hid (IntKind.i64.wrap (b.1 - a.1) = b.1 - a.1) ∧ Hid (IntKind.i64.wrap (b.2 - a.2) = b.2 - a.2) ∧
  Hid (∀ W, Calls Tryz.prog 79 #[.int .i64 (b.1 - a.1), .int .i64 (b.1 - a.1)] W fun e w' => e = .returned (.agg #[.int .i64 (hiOf ((b.1 - a.1) * (b.1 - a.1))), .int .u64 (loOf ((b.1 - a.1) * (b.1 - a.1)))]) ∧ Below W.heap.size W w') ∧
  Hid (∀ W, Calls Tryz.prog 79 #[.int .i64 (b.2 - a.2), .int .i64 (b.2 - a.2)] W fun e w' => e = .returned (.agg #[.int .i64 (hiOf ((b.2 - a.2) * (b.2 - a.2))), .int .u64 (loOf ((b.2 - a.2) * (b.2 - a.2)))]) ∧ Below W.heap.size W w') ∧
  Hid (∀ W, Calls Tryz.prog 78 #[.agg #[.int .i64 (hiOf ((b.1 - a.1) * (b.1 - a.1))), .int .u64 (loOf ((b.1 - a.1) * (b.1 - a.1)))], .agg #[.int .i64 (hiOf ((b.2 - a.2) * (b.2 - a.2))), .int .u64 (loOf ((b.2 - a.2) * (b.2 - a.2)))]] W fun e w' => e = .returned (.tuple #[.agg #[.int .i64 (hiOf (sqr a b)), .int .u64 (loOf (sqr a b))], .int .i64 0]) ∧ Below W.heap.size W w') := by
 have hl := sqr_lim ha hb
 have i3 : InR (sqr a b) := by unfold InR; omega
 unfold Gd at ha hb
 have l1 := mul_lim (x := b.1 - a.1) (y := b.1 - a.1) (P := 2147483648) (Q := 2147483648) (by omega) (by omega)
 have l2 := mul_lim (x := b.2 - a.2) (y := b.2 - a.2) (P := 2147483648) (Q := 2147483648) (by omega) (by omega)
 have i1 : InR ((b.1 - a.1) * (b.1 - a.1)) := by unfold InR; omega
 have i2 : InR ((b.2 - a.2) * (b.2 - a.2)) := by unfold InR; omega
 obtain ⟨s1, s2, s3⟩ := add_of i1 i2 i3
 have hs := fun W => add_any _ _ _ _ (wf_of i1) (wf_of i2) W
 rw [s1, s2, s3] at hs
 exact ⟨wrap_in (by omega) (by omega), wrap_in (by omega) (by omega), fun W => mul_any _ _ W (by omega) (by omega) (by omega) (by omega), fun W => mul_any _ _ W (by omega) (by omega) (by omega) (by omega), hs⟩

section
variable (a b c : Int × Int)

set_option maxHeartbeats 800000 in
theorem Turn_bad (hg : gdL [a, b, c] = false) (w : World) :
  Calls Tryz.prog 109 #[.agg #[.int .i64 a.1, .int .i64 a.2], .agg #[.int .i64 b.1, .int .i64 b.2], .agg #[.int .i64 c.1, .int .i64 c.2]] w fun e w' => e = .returned (.tuple #[.int .i64 0, .int .i64 3]) ∧ Below w.heap.size w w' := by
 have HQ := Hold.three0 w a b c
 go_enter Tryz.func109, Tryz.ntmps109
 go_upto_region 1 with (fail)
 generalize (World.alloc _ _) = W1 at HQ ⊢
 generalize w.heap.size + 1 + 1 = g2 at HQ ⊢
 generalize w.heap.size + 1 = g1 at HQ ⊢
 obtain ⟨f0, f1, f2, f3, f4, f5⟩ := HQ.rd3
 go_wp2_with fail
 go_at_call 59
 refine (good_three a b c _ _ _).mono ?_
 rintro e w1 ⟨rfl, hB⟩
 replace HQ := (HQ.alloc _).on (hB.mono (by simp only [World.size_alloc]; omega))
 clear hB f0 f1 f2 f3 f4 f5
 go_wp2
 go_ret2
 exact ⟨rfl, HQ.1⟩

set_option maxHeartbeats 800000 in
theorem Turn_good (hg : gdL [a, b, c] = true) (w : World) :
  Calls Tryz.prog 109 #[.agg #[.int .i64 a.1, .int .i64 a.2], .agg #[.int .i64 b.1, .int .i64 b.2], .agg #[.int .i64 c.1, .int .i64 c.2]] w fun e w' => e = .returned (.tuple #[.int .i64 (sgn (crs a b c)), .int .i64 0]) ∧ Below w.heap.size w w' := by
 obtain ⟨ha, hb, hc⟩ := gdL_three.1 hg
 have hx := fun W => turn_any a b c ha hb hc W
 have HX := Lib.hid hx
 clear hx ha hb hc
 have HQ := Hold.three0 w a b c
 go_enter Tryz.func109, Tryz.ntmps109
 go_upto_region 1 with (fail)
 generalize (World.alloc _ _) = W1 at HQ ⊢
 generalize w.heap.size + 1 + 1 = g2 at HQ ⊢
 generalize w.heap.size + 1 = g1 at HQ ⊢
 obtain ⟨f0, f1, f2, f3, f4, f5⟩ := HQ.rd3
 go_wp2_with fail
 go_at_call 59
 refine (good_three a b c _ _ _).mono ?_
 rintro e w1 ⟨rfl, hB⟩
 replace HQ := (HQ.alloc _).on (hB.mono (by simp only [World.size_alloc]; omega))
 clear hB f0 f1 f2 f3 f4 f5
 obtain ⟨f0, f1, f2, f3, f4, f5⟩ := HQ.rd3
 go_wp2_with fail
 go_at_call 135
 refine (HX.out _).mono ?_
 rintro e w2 ⟨rfl, hB⟩
 replace HQ := HQ.on hB
 clear hB f0 f1 f2 f3 f4 f5
 go_wp2
 go_ret2
 exact ⟨rfl, HQ.1⟩

set_option maxHeartbeats 800000 in
theorem On_good (hg : gdL [a, b, c] = true) (w : World) :
  Calls Tryz.prog 66 #[.agg #[.int .i64 a.1, .int .i64 a.2], .agg #[.int .i64 b.1, .int .i64 b.2], .agg #[.int .i64 c.1, .int .i64 c.2]] w fun e w' => e = .returned (.tuple #[.bool (onB a b c), .int .i64 0]) ∧ Below w.heap.size w w' := by
 obtain ⟨ha, hb, hc⟩ := gdL_three.1 hg
 have hx := fun W => on_any a b c ha hb hc W
 have HX := Lib.hid hx
 clear hx ha hb hc
 have HQ := Hold.three0 w a b c
 go_enter Tryz.func66, Tryz.ntmps66
 go_upto_region 1 with (fail)
 generalize (World.alloc _ _) = W1 at HQ ⊢
 generalize w.heap.size + 1 + 1 = g2 at HQ ⊢
 generalize w.heap.size + 1 = g1 at HQ ⊢
 obtain ⟨f0, f1, f2, f3, f4, f5⟩ := HQ.rd3
 go_wp2_with fail
 go_at_call 59
 refine (good_three a b c _ _ _).mono ?_
 rintro e w1 ⟨rfl, hB⟩
 replace HQ := (HQ.alloc _).on (hB.mono (by simp only [World.size_alloc]; omega))
 clear hB f0 f1 f2 f3 f4 f5
 obtain ⟨f0, f1, f2, f3, f4, f5⟩ := HQ.rd3
 go_wp2_with fail
 go_at_call 108
 refine (HX.out _).mono ?_
 rintro e w2 ⟨rfl, hB⟩
 replace HQ := HQ.on hB
 clear hB f0 f1 f2 f3 f4 f5
 go_wp2
 go_ret2
 exact ⟨rfl, HQ.1⟩

set_option maxHeartbeats 800000 in
theorem Cross_good (hg : gdL [a, b, c] = true) (w : World) :
  Calls Tryz.prog 131 #[.agg #[.int .i64 a.1, .int .i64 a.2], .agg #[.int .i64 b.1, .int .i64 b.2], .agg #[.int .i64 c.1, .int .i64 c.2]] w fun e w' => e = .returned (.tuple #[.agg #[.int .i64 (hiOf (crs a b c)), .int .u64 (loOf (crs a b c))], .int .i64 0]) ∧ Below w.heap.size w w' := by
 obtain ⟨ha, hb, hc⟩ := gdL_three.1 hg
 have hx := fun W => cross_any a b c ha hb hc W
 have HX := Lib.hid hx
 clear hx ha hb hc
 have HQ := (Hold.three0 w a b c).new' #[.int .i64 0, .int .u64 0] 64 (n := w.heap.size + 1 + 1 + 1) (by simp only [World.size_alloc])
 go_enter Tryz.func131, Tryz.ntmps131
 go_upto_region 1 with (fail)
 generalize (World.alloc _ _) = W1 at HQ ⊢
 generalize w.heap.size + 1 + 1 + 1 = g3 at HQ ⊢
 generalize w.heap.size + 1 + 1 = g2 at HQ ⊢
 generalize w.heap.size + 1 = g1 at HQ ⊢
 obtain ⟨f0, f1, f2, f3, f4, f5⟩ := HQ.tail.rd3
 go_wp2_with fail
 go_at_call 59
 refine (good_three a b c _ _ _).mono ?_
 rintro e w1 ⟨rfl, hB⟩
 replace HQ := (HQ.alloc _).on (hB.mono (by simp only [World.size_alloc]; omega))
 clear hB f0 f1 f2 f3 f4 f5
 obtain ⟨f0, f1, f2, f3, f4, f5⟩ := HQ.tail.rd3
 go_wp2_with fail
 go_at_call 174
 refine (HX.out _).mono ?_
 rintro e w2 ⟨rfl, hB⟩
 replace HQ := HQ.on hB
 clear hB f0 f1 f2 f3 f4 f5
 obtain ⟨k0, k1, k2, k3⟩ := HQ.top
 have HE := HQ.set2 (.int .i64 (hiOf (crs a b c))) (.int .u64 (loOf (crs a b c)))
 obtain ⟨n1, n2, -, -⟩ := HE.top
 have HF := Lib.hid HE.1
 clear HE HQ
 go_wp2
 refine bodyPost_ret (v := .tuple #[.agg #[.int .i64 (hiOf (crs a b c)), .int .u64 (loOf (crs a b c))], .int .i64 0]) ?_ rfl ⟨rfl, HF.out⟩
 simp [results, Tryz.results131, go_sem, n1, n2]

set_option maxHeartbeats 800000 in
theorem Square_good (hg : gdL [a, b] = true) (w : World) :
  Calls Tryz.prog 46 #[.agg #[.int .i64 a.1, .int .i64 a.2], .agg #[.int .i64 b.1, .int .i64 b.2]] w fun e w' => e = .returned (.tuple #[.agg #[.int .i64 (hiOf (sqr a b)), .int .u64 (loOf (sqr a b))], .int .i64 0]) ∧ Below w.heap.size w w' := by
 obtain ⟨ha, hb⟩ := gdL_two.1 hg
 obtain ⟨s1, s2, HM1, HM2, HS⟩ := sqr_calls ha hb
 have q1 := s1.out
 have q2 := s2.out
 clear ha hb s1 s2
 have HQ := (Hold.two0 w a b).new' #[.int .i64 0, .int .u64 0] 64 (n := w.heap.size + 1 + 1) (by simp only [World.size_alloc])
 go_enter Tryz.func46, Tryz.ntmps46
 go_upto_region 1 with (fail)
 generalize (World.alloc _ _) = W1 at HQ ⊢
 generalize w.heap.size + 1 + 1 = g2 at HQ ⊢
 generalize w.heap.size + 1 = g1 at HQ ⊢
 obtain ⟨f0, f1, f2, f3⟩ := HQ.tail.rd2
 go_wp2_with fail
 go_at_call 59
 refine (good_two a b _ _ _).mono ?_
 rintro e w1 ⟨rfl, hB⟩
 replace HQ := (HQ.alloc _).on (hB.mono (by simp only [World.size_alloc]; omega))
 clear hB f0 f1 f2 f3
 obtain ⟨f0, f1, f2, f3⟩ := HQ.tail.rd2
 go_upto_region 3 with (fail)
 go_quiet (fail)
 replace HQ := HQ.drewN nq
 clear f0 f1 f2 f3
 go_wp2_with fail
 go_at_call 79
 refine (HM1.out _).mono ?_
 rintro e w2 ⟨rfl, hB⟩
 replace HQ := HQ.on hB
 clear hB
 go_wp2_with fail
 go_at_call 79
 refine (HM2.out _).mono ?_
 rintro e w3 ⟨rfl, hB⟩
 replace HQ := HQ.on hB
 clear hB
 go_wp2_with fail
 go_at_call 78
 refine (HS.out _).mono ?_
 rintro e w4 ⟨rfl, hB⟩
 replace HQ := HQ.on hB
 clear hB
 obtain ⟨k0, k1, k2, k3⟩ := HQ.top
 have HE := HQ.set2 (.int .i64 (hiOf (sqr a b))) (.int .u64 (loOf (sqr a b)))
 obtain ⟨n1, n2, -, -⟩ := HE.top
 have HF := Lib.hid HE.1
 clear HE HQ
 go_wp2
 refine bodyPost_ret (v := .tuple #[.agg #[.int .i64 (hiOf (sqr a b)), .int .u64 (loOf (sqr a b))], .int .i64 0]) ?_ rfl ⟨rfl, HF.out⟩
 simp [results, Tryz.results46, go_sem, n1, n2]
end
end Go.Proofs.YtoabooljgojoiaaGreat

namespace Go.Proofs.YtoabooljgojoiaaGreat
open Go.RowKit

theorem ref_good_new (ps : List (Int × Int)) (cap : Nat) (w W : World) (t : TypeId) (hn : ps.length ≤ maxLen) (hW : W = w.alloc (Obj.cells (flatP ps).toArray t (0, 0))) :
  Calls Tryz.prog 11 #[.slice (some ⟨w.heap.size, 0, none⟩) ps.length cap] W fun e w' => e = .returned (.bool (gdL ps)) ∧ Below (w.heap.size + 1) W w' := by
 subst hW
 have h := ref_good ps (some ⟨w.heap.size, 0, none⟩) cap _ hn (pts_of (heap_alloc_new w (Obj.cells (flatP ps).toArray t (0, 0))) (by simp only [World.size_alloc]; omega))
 simp only [World.size_alloc] at h
 exact h
theorem ref_good_one (a : Int × Int) (cap : Nat) (w : World) (t : TypeId) :
  Calls Tryz.prog 11 #[.slice (some ⟨w.heap.size, 0, none⟩) 1 cap] (w.alloc (Obj.cells #[.int .i64 a.1, .int .i64 a.2] t (0, 0))) fun e w' => e = .returned (.bool (gdL [a])) ∧ Below (w.heap.size + 1) (w.alloc (Obj.cells #[.int .i64 a.1, .int .i64 a.2] t (0, 0))) w' :=
 ref_good_new [a] cap w _ t (by unfold maxLen; simp) rfl
theorem ref_good_two (a b : Int × Int) (cap : Nat) (w : World) (t : TypeId) :
  Calls Tryz.prog 11 #[.slice (some ⟨w.heap.size, 0, none⟩) 2 cap] (w.alloc (Obj.cells #[.int .i64 a.1, .int .i64 a.2, .int .i64 b.1, .int .i64 b.2] t (0, 0))) fun e w' => e = .returned (.bool (gdL [a, b])) ∧ Below (w.heap.size + 1) (w.alloc (Obj.cells #[.int .i64 a.1, .int .i64 a.2, .int .i64 b.1, .int .i64 b.2] t (0, 0))) w' :=
 ref_good_new [a, b] cap w _ t (by unfold maxLen; simp) rfl
def tv (a b c : Int × Int) : Int := if gdL [a, b, c] then sgn (crs a b c) else 0
def te (a b c : Int × Int) : Int := if gdL [a, b, c] then 0 else 3
def mv (a b c d : Int × Int) : Int := if gdL [a, b, c, d] then meetN a b c d else 0
def me (a b c d : Int × Int) : Int := if gdL [a, b, c, d] then 0 else 3
theorem Turn_any (a b c : Int × Int) (w : World) :
  Calls Tryz.prog 109 #[.agg #[.int .i64 a.1, .int .i64 a.2], .agg #[.int .i64 b.1, .int .i64 b.2], .agg #[.int .i64 c.1, .int .i64 c.2]] w fun e w' => e = .returned (.tuple #[.int .i64 (tv a b c), .int .i64 (te a b c)]) ∧ Below w.heap.size w w' := by
 unfold tv te
 cases hg : gdL [a, b, c]
 ·exact Turn_bad a b c hg w
 ·exact Turn_good a b c hg w
theorem Meet_any (a b c d : Int × Int) (w : World) :
  Calls Tryz.prog 137 #[.agg #[.int .i64 a.1, .int .i64 a.2], .agg #[.int .i64 b.1, .int .i64 b.2], .agg #[.int .i64 c.1, .int .i64 c.2], .agg #[.int .i64 d.1, .int .i64 d.2]] w fun e w' => e = .returned (.tuple #[.int .i64 (mv a b c d), .int .i64 (me a b c d)]) ∧ Below w.heap.size w w' := by
 unfold mv me
 cases hg : gdL [a, b, c, d]
 ·exact meet_bad a b c d hg w
 ·exact meet_good a b c d hg w
section
variable {w W : World} {g0 g1 g2 g9 : Nat} {x0 y0 x1 y1 x2 y2 x9 y9 : Value} {t0 t1 t2 t9 : TypeId}
end
end Go.Proofs.YtoabooljgojoiaaGreat
