/- The contracts of the program's calls Cross, Turn, On and Square, of any points. -/
import Derived.Test.YtfjfmieadedjoaaGreatMeets3
import Derived.Test.YtfjfmieadedjoaaGreatGeoR1
namespace Go.Proofs.YtfjfmieadedjoaaGreat
open Go.RowKit

section
variable (a b c : Int × Int)

set_option maxHeartbeats 800000 in
theorem On_good (hg : gdL [a, b, c] = true) (w : World) :
  Calls Tryz.prog 63 #[.agg #[.int .i64 a.1, .int .i64 a.2], .agg #[.int .i64 b.1, .int .i64 b.2], .agg #[.int .i64 c.1, .int .i64 c.2]] w fun e w' => e = .returned (.tuple #[.bool (onB a b c), .int .i64 0]) ∧ Below w.heap.size w w' := by
 obtain ⟨ha, hb, hc⟩ := gdL_three.1 hg
 have hx := fun W => on_any a b c ha hb hc W
 have HX := Lib.hid hx
 clear hx ha hb hc
 have HQ := Hold.three0 w a b c
 go_enter Tryz.func63, Tryz.ntmps63
 go_upto_region 1 with (fail)
 generalize (World.alloc _ _) = W1 at HQ ⊢
 generalize w.heap.size + 1 + 1 = g2 at HQ ⊢
 generalize w.heap.size + 1 = g1 at HQ ⊢
 obtain ⟨f0, f1, f2, f3, f4, f5⟩ := HQ.rd3
 go_wp2_with fail
 go_at_call 55
 refine (good_three a b c _ _ _).mono ?_
 rintro e w1 ⟨rfl, hB⟩
 replace HQ := (HQ.alloc _).on (hB.mono (by simp only [World.size_alloc]; omega))
 clear hB f0 f1 f2 f3 f4 f5
 obtain ⟨f0, f1, f2, f3, f4, f5⟩ := HQ.rd3
 go_wp2_with fail
 go_at_call 81
 refine (HX.out _).mono ?_
 rintro e w2 ⟨rfl, hB⟩
 replace HQ := HQ.on hB
 clear hB f0 f1 f2 f3 f4 f5
 go_wp2
 go_ret2
 exact ⟨rfl, HQ.1⟩

set_option maxHeartbeats 800000 in
theorem Cross_good (hg : gdL [a, b, c] = true) (w : World) :
  Calls Tryz.prog 112 #[.agg #[.int .i64 a.1, .int .i64 a.2], .agg #[.int .i64 b.1, .int .i64 b.2], .agg #[.int .i64 c.1, .int .i64 c.2]] w fun e w' => e = .returned (.tuple #[.agg #[.int .i64 (hiOf (crs a b c)), .int .u64 (loOf (crs a b c))], .int .i64 0]) ∧ Below w.heap.size w w' := by
 obtain ⟨ha, hb, hc⟩ := gdL_three.1 hg
 have hx := fun W => cross_any a b c ha hb hc W
 have HX := Lib.hid hx
 clear hx ha hb hc
 have HQ := (Hold.three0 w a b c).new' #[.int .i64 0, .int .u64 0] 41 (n := w.heap.size + 1 + 1 + 1) (by simp only [World.size_alloc])
 go_enter Tryz.func112, Tryz.ntmps112
 go_upto_region 1 with (fail)
 generalize (World.alloc _ _) = W1 at HQ ⊢
 generalize w.heap.size + 1 + 1 + 1 = g3 at HQ ⊢
 generalize w.heap.size + 1 + 1 = g2 at HQ ⊢
 generalize w.heap.size + 1 = g1 at HQ ⊢
 obtain ⟨f0, f1, f2, f3, f4, f5⟩ := HQ.tail.rd3
 go_wp2_with fail
 go_at_call 55
 refine (good_three a b c _ _ _).mono ?_
 rintro e w1 ⟨rfl, hB⟩
 replace HQ := (HQ.alloc _).on (hB.mono (by simp only [World.size_alloc]; omega))
 clear hB f0 f1 f2 f3 f4 f5
 obtain ⟨f0, f1, f2, f3, f4, f5⟩ := HQ.tail.rd3
 go_wp2_with fail
 go_at_call 108
 refine (HX.out _).mono ?_
 rintro e w2 ⟨rfl, hB⟩
 replace HQ := HQ.on hB
 clear hB f0 f1 f2 f3 f4 f5
 obtain ⟨k0, k1, k2, k3⟩ := HQ.top
 have HE := HQ.set2 (.int .i64 (hiOf (crs a b c))) (.int .u64 (loOf (crs a b c)))
 obtain ⟨n1, n2, -, -⟩ := HE.top
 have HF := Lib.hid HE.1
 clear HE HQ
 go_wp2
 refine bodyPost_ret (v := .tuple #[.agg #[.int .i64 (hiOf (crs a b c)), .int .u64 (loOf (crs a b c))], .int .i64 0]) ?_ rfl ⟨rfl, HF.out⟩
 simp [results, Tryz.results112, go_sem, n1, n2]

end
end Go.Proofs.YtfjfmieadedjoaaGreat

namespace Go.Proofs.YtfjfmieadedjoaaGreat
open Go.RowKit

theorem ref_good_new (ps : List (Int × Int)) (cap : Nat) (w W : World) (t : TypeId) (hn : ps.length ≤ maxLen) (hW : W = w.alloc (Obj.cells (flatP ps).toArray t (0, 0))) :
  Calls Tryz.prog 24 #[.slice (some ⟨w.heap.size, 0, none⟩) ps.length cap] W fun e w' => e = .returned (.bool (gdL ps)) ∧ Below (w.heap.size + 1) W w' := by
 subst hW
 have h := ref_good ps (some ⟨w.heap.size, 0, none⟩) cap _ hn (pts_of (heap_alloc_new w (Obj.cells (flatP ps).toArray t (0, 0))) (by simp only [World.size_alloc]; omega))
 simp only [World.size_alloc] at h
 exact h
theorem ref_good_one (a : Int × Int) (cap : Nat) (w : World) (t : TypeId) :
  Calls Tryz.prog 24 #[.slice (some ⟨w.heap.size, 0, none⟩) 1 cap] (w.alloc (Obj.cells #[.int .i64 a.1, .int .i64 a.2] t (0, 0))) fun e w' => e = .returned (.bool (gdL [a])) ∧ Below (w.heap.size + 1) (w.alloc (Obj.cells #[.int .i64 a.1, .int .i64 a.2] t (0, 0))) w' :=
 ref_good_new [a] cap w _ t (by unfold maxLen; simp) rfl
theorem ref_good_two (a b : Int × Int) (cap : Nat) (w : World) (t : TypeId) :
  Calls Tryz.prog 24 #[.slice (some ⟨w.heap.size, 0, none⟩) 2 cap] (w.alloc (Obj.cells #[.int .i64 a.1, .int .i64 a.2, .int .i64 b.1, .int .i64 b.2] t (0, 0))) fun e w' => e = .returned (.bool (gdL [a, b])) ∧ Below (w.heap.size + 1) (w.alloc (Obj.cells #[.int .i64 a.1, .int .i64 a.2, .int .i64 b.1, .int .i64 b.2] t (0, 0))) w' :=
 ref_good_new [a, b] cap w _ t (by unfold maxLen; simp) rfl
def mv (a b c d : Int × Int) : Int := if gdL [a, b, c, d] then meetN a b c d else 0
def me (a b c d : Int × Int) : Int := if gdL [a, b, c, d] then 0 else 3
theorem Meet_any (a b c d : Int × Int) (w : World) :
  Calls Tryz.prog 116 #[.agg #[.int .i64 a.1, .int .i64 a.2], .agg #[.int .i64 b.1, .int .i64 b.2], .agg #[.int .i64 c.1, .int .i64 c.2], .agg #[.int .i64 d.1, .int .i64 d.2]] w fun e w' => e = .returned (.tuple #[.int .i64 (mv a b c d), .int .i64 (me a b c d)]) ∧ Below w.heap.size w w' := by
 unfold mv me
 cases hg : gdL [a, b, c, d]
 ·exact meet_bad a b c d hg w
 ·exact meet_good a b c d hg w
section
variable {w W : World} {g0 g1 g2 g9 : Nat} {x0 y0 x1 y1 x2 y2 x9 y9 : Value} {t0 t1 t2 t9 : TypeId}
end
end Go.Proofs.YtfjfmieadedjoaaGreat
