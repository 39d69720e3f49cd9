/- The contracts of the program's calls Cross, Turn, On and Square, of any points. -/
import Derived.Test.YtjlnjjmomohpaaaGreatMeets3
import Derived.Test.YtjlnjjmomohpaaaGreatGeoR1
namespace Go.Proofs.YtjlnjjmomohpaaaGreat
open Go.RowKit

section
variable (a b c : Int × Int)

set_option maxHeartbeats 800000 in
theorem Cross_good (hg : gdL [a, b, c] = true) (w : World) :
  Calls Tryz.prog 164 #[.agg #[.int .i64 a.1, .int .i64 a.2], .agg #[.int .i64 b.1, .int .i64 b.2], .agg #[.int .i64 c.1, .int .i64 c.2]] w fun e w' => e = .returned (.tuple #[.agg #[.int .i64 (hiOf (crs a b c)), .int .u64 (loOf (crs a b c))], .int .i64 0]) ∧ Below w.heap.size w w' := by
 obtain ⟨ha, hb, hc⟩ := gdL_three.1 hg
 have hx := fun W => cross_any a b c ha hb hc W
 have HX := Lib.hid hx
 clear hx ha hb hc
 have HQ := (Hold.three0 w a b c).new' #[.int .i64 0, .int .u64 0] 67 (n := w.heap.size + 1 + 1 + 1) (by simp only [World.size_alloc])
 go_enter Tryz.func164, Tryz.ntmps164
 go_upto_region 1 with (fail)
 generalize (World.alloc _ _) = W1 at HQ ⊢
 generalize w.heap.size + 1 + 1 + 1 = g3 at HQ ⊢
 generalize w.heap.size + 1 + 1 = g2 at HQ ⊢
 generalize w.heap.size + 1 = g1 at HQ ⊢
 obtain ⟨f0, f1, f2, f3, f4, f5⟩ := HQ.tail.rd3
 go_wp2_with fail
 go_at_call 162
 refine (good_three a b c _ _ _).mono ?_
 rintro e w1 ⟨rfl, hB⟩
 replace HQ := (HQ.alloc _).on (hB.mono (by simp only [World.size_alloc]; omega))
 clear hB f0 f1 f2 f3 f4 f5
 obtain ⟨f0, f1, f2, f3, f4, f5⟩ := HQ.tail.rd3
 go_wp2_with fail
 go_at_call 182
 refine (HX.out _).mono ?_
 rintro e w2 ⟨rfl, hB⟩
 replace HQ := HQ.on hB
 clear hB f0 f1 f2 f3 f4 f5
 obtain ⟨k0, k1, k2, k3⟩ := HQ.top
 have HE := HQ.set2 (.int .i64 (hiOf (crs a b c))) (.int .u64 (loOf (crs a b c)))
 obtain ⟨n1, n2, -, -⟩ := HE.top
 have HF := Lib.hid HE.1
 clear HE HQ
 go_wp2
 refine bodyPost_ret (v := .tuple #[.agg #[.int .i64 (hiOf (crs a b c)), .int .u64 (loOf (crs a b c))], .int .i64 0]) ?_ rfl ⟨rfl, HF.out⟩
 simp [results, Tryz.results164, go_sem, n1, n2]

end
end Go.Proofs.YtjlnjjmomohpaaaGreat

namespace Go.Proofs.YtjlnjjmomohpaaaGreat
open Go.RowKit

def mv (a b c d : Int × Int) : Int := if gdL [a, b, c, d] then meetN a b c d else 0
def me (a b c d : Int × Int) : Int := if gdL [a, b, c, d] then 0 else 3
theorem Meet_any (a b c d : Int × Int) (w : World) :
  Calls Tryz.prog 168 #[.agg #[.int .i64 a.1, .int .i64 a.2], .agg #[.int .i64 b.1, .int .i64 b.2], .agg #[.int .i64 c.1, .int .i64 c.2], .agg #[.int .i64 d.1, .int .i64 d.2]] w fun e w' => e = .returned (.tuple #[.int .i64 (mv a b c d), .int .i64 (me a b c d)]) ∧ Below w.heap.size w w' := by
 unfold mv me
 cases hg : gdL [a, b, c, d]
 ·exact meet_bad a b c d hg w
 ·exact meet_good a b c d hg w
section
variable {w W : World} {g0 g1 g2 g9 : Nat} {x0 y0 x1 y1 x2 y2 x9 y9 : Value} {t0 t1 t2 t9 : TypeId}
end
end Go.Proofs.YtjlnjjmomohpaaaGreat
