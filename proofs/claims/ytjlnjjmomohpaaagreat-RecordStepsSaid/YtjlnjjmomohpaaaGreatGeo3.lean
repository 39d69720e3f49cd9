/- The contracts of the program's calls on points: whether a number is between two, the cross product, the side of a way. -/
import Derived.Test.YtjlnjjmomohpaaaGreatHold
import Derived.Test.YtjlnjjmomohpaaaGreatPlane
import Derived.Deep.RegionHeld3
import Derived.Deep.DeepCutAuto
import Derived.Deep.LoopGhost
namespace Go.Proofs.YtjlnjjmomohpaaaGreat
open Go.RowKit

theorem wrap_in {n : Int} (h1 : -9223372036854775808 ≤ n) (h2 : n ≤ 9223372036854775807) : IntKind.i64.wrap n = n := by rw [IntKind.wrap_i64]; omega
def wth (n lo hi : Int) : Bool := decide (lo ≤ n) && decide (n ≤ hi)
theorem within_any (n lo hi : Int) (w : World) :
  Calls Tryz.prog 180 #[.int .i64 n, .int .i64 lo, .int .i64 hi] w fun e w' => e = .returned (.bool (wth n lo hi)) ∧ w = w' := by
 by_cases h1 : lo ≤ n
 ·by_cases h2 : n ≤ hi
  ·have HG : Hid (wth n lo hi = true) := by unfold Hid wth; simp [h1, h2]
   go_enter Tryz.func180, Tryz.ntmps180
   go_wp2
   go_ret
   rw [HG.out]
   exact ⟨rfl, rfl⟩
  ·have HG : Hid (wth n lo hi = false) := by unfold Hid wth; simp [h2]
   go_enter Tryz.func180, Tryz.ntmps180
   go_wp2
   go_ret
   rw [HG.out]
   exact ⟨rfl, rfl⟩
 ·have HG : Hid (wth n lo hi = false) := by unfold Hid wth; simp [h1]
  go_enter Tryz.func180, Tryz.ntmps180
  go_wp2
  go_ret
  rw [HG.out]
  exact ⟨rfl, rfl⟩

section
variable {w W W' : World} {g g' g'' g6 : Nat} {cs : Array Value} {x y x' y' x'' y'' : Value} {t t' t'' t6 : TypeId}
theorem Hold.abc (h : Hold w [(g6, cs, t6), (g'', #[x'', y''], t''), (g', #[x', y'], t'), (g, #[x, y], t)] W) : W.cell? ⟨g, 0, none⟩ = some x ∧ W.cell? ⟨g, 1, none⟩ = some y ∧ W.cell? ⟨g', 0, none⟩ = some x' ∧ W.cell? ⟨g', 1, none⟩ = some y' ∧ W.cell? ⟨g'', 0, none⟩ = some x'' ∧ W.cell? ⟨g'', 1, none⟩ = some y'' :=
 ⟨(h.pt (.tail _ (.tail _ (.tail _ (.head _))))).1, (h.pt (.tail _ (.tail _ (.tail _ (.head _))))).2, (h.pt (.tail _ (.tail _ (.head _)))).1, (h.pt (.tail _ (.tail _ (.head _)))).2, (h.pt (.tail _ (.head _))).1, (h.pt (.tail _ (.head _))).2⟩
theorem Hold.abc5 {g7 : Nat} {cs7 : Array Value} {t7 : TypeId} (h : Hold w [(g7, cs7, t7), (g6, cs, t6), (g'', #[x'', y''], t''), (g', #[x', y'], t'), (g, #[x, y], t)] W) : W.cell? ⟨g, 0, none⟩ = some x ∧ W.cell? ⟨g, 1, none⟩ = some y ∧ W.cell? ⟨g', 0, none⟩ = some x' ∧ W.cell? ⟨g', 1, none⟩ = some y' ∧ W.cell? ⟨g'', 0, none⟩ = some x'' ∧ W.cell? ⟨g'', 1, none⟩ = some y'' := h.tail.abc
theorem Hold.two {e1 e2 e3 e4 e5 : Nat × Array Value × TypeId} (h : Hold w [e1, e2, e3, e4, e5] W) : Hold w [e1, e2] W := h.sub (by simp)
theorem Hold.top5 {g7 : Nat} {a b : Value} {t7 : TypeId} {e1 e2 e3 e4 : Nat × Array Value × TypeId} (h : Hold w [(g7, #[a, b], t7), e1, e2, e3, e4] W) : W.cell? ⟨g7, 0, none⟩ = some a ∧ W.cell? ⟨g7, 1, none⟩ = some b ∧ W.frozen? ⟨g7, 0, none⟩ = false ∧ W.frozen? ⟨g7, 1, none⟩ = false := h.top
end

set_option maxRecDepth 100000 in
set_option maxHeartbeats 2000000 in
theorem cross_any (a b c : Int × Int) (ha : Gd a) (hb : Gd b) (hc : Gd c) (w : World) :
  Calls Tryz.prog 182 #[.agg #[.int .i64 a.1, .int .i64 a.2], .agg #[.int .i64 b.1, .int .i64 b.2], .agg #[.int .i64 c.1, .int .i64 c.2]] w fun e w' => e = .returned (.agg #[.int .i64 (hiOf (crs a b c)), .int .u64 (loOf (crs a b c))]) ∧ Below w.heap.size w w' := by
 have ha' := ha
 have hb' := hb
 have hc' := hc
 unfold Gd at ha' hb' hc'
 have q1 := wrap_in (n := b.1 - a.1) (by omega) (by omega)
 have q2 := wrap_in (n := c.2 - a.2) (by omega) (by omega)
 have q3 := wrap_in (n := b.2 - a.2) (by omega) (by omega)
 have q4 := wrap_in (n := c.1 - a.1) (by omega) (by omega)
 have hm1 := fun W => mul_any (b.1 - a.1) (c.2 - a.2) W (by omega) (by omega) (by omega) (by omega)
 have hm2 := fun W => mul_any (b.2 - a.2) (c.1 - a.1) W (by omega) (by omega) (by omega) (by omega)
 have i1 : InR ((b.1 - a.1) * (c.2 - a.2)) := by have := crs_mul ha hb hc; unfold InR; omega
 have i2 : InR ((b.2 - a.2) * (c.1 - a.1)) := by have := crs_mul' ha hb hc; unfold InR; omega
 have hs := fun W => sub_any _ _ _ _ (wf_of i1) (wf_of i2) W
 obtain ⟨s1, s2, s3⟩ := sub_of i1 i2 (crs_inR ha hb hc)
 rw [s1, s2, s3] at hs
 have HM1 := Lib.hid hm1
 have HM2 := Lib.hid hm2
 have HS := Lib.hid hs
 clear hm1 hm2 hs s1 s2 s3 i1 i2 ha hb hc ha' hb' hc'
 go_enter Tryz.func182, Tryz.ntmps182
 go_upto_region 1 with (fail)
 have HQ := ((((Hold.refl w).new #[.int .i64 a.1, .int .i64 a.2] 56).new #[.int .i64 b.1, .int .i64 b.2] 56).new #[.int .i64 c.1, .int .i64 c.2] 56).new #[.int .i64 0, .int .u64 0] 67
 simp only [World.size_alloc] at HQ
 generalize (World.alloc _ _) = W1 at HQ ⊢
 generalize w.heap.size + 1 + 1 + 1 = g6 at HQ ⊢
 generalize w.heap.size + 1 + 1 = g5 at HQ ⊢
 generalize w.heap.size + 1 = g4 at HQ ⊢
 go_cut [7] (fun s7 wx => ∃ g7, s7 = .pointer (some ⟨g7, 0, none⟩) ∧ Hold w [(g7, #[.int .i64 (hiOf (crs a b c)), .int .u64 (loOf (crs a b c))], 67), (g6, #[.int .i64 0, .int .u64 0], 67)] wx)
 case first =>
  go_region_held3 (fun W => W.cell? ⟨w.heap.size, 0, none⟩ = some (.int .i64 a.1) ∧ W.cell? ⟨w.heap.size, 1, none⟩ = some (.int .i64 a.2) ∧ W.cell? ⟨g4, 0, none⟩ = some (.int .i64 b.1) ∧ W.cell? ⟨g4, 1, none⟩ = some (.int .i64 b.2) ∧ W.cell? ⟨g5, 0, none⟩ = some (.int .i64 c.1) ∧ W.cell? ⟨g5, 1, none⟩ = some (.int .i64 c.2)) (first | exact Hold.abc (by assumption) | exact Hold.abc5 (by assumption) | exact Hold.abc (Hold.drew (by assumption)) | exact Hold.abc5 (Hold.drew (by assumption)) | exact Hold.abc5 (Hold.new (by assumption) _ _) | exact Hold.abc5 (Hold.drew (Hold.new (by assumption) _ _)) | exact Hold.abc5 (Hold.set2 (by assumption) _ _) | exact Hold.abc5 (Hold.set2 (Hold.new (by assumption) _ _) _ _)) (first
   |(go_at_call 193; (with_reducible refine (HM1.out _).mono ?_); rintro e w' ⟨rfl, hB⟩; (first | (have HS' := Hold.on (by first | assumption | exact Hold.drew (by assumption)) hB) | (have HS' := Hold.on (Hold.new (by assumption) _ _) hB) | (have HS' := Hold.on (Hold.drew (Hold.new (by assumption) _ _)) hB)); (first | (have HF' := Hold.top5 HS'; obtain ⟨f1, f2, f3, f4⟩ := HF') | skip))
   |(go_at_call 193; (with_reducible refine (HM2.out _).mono ?_); rintro e w' ⟨rfl, hB⟩; (first | (have HS' := Hold.on (by first | assumption | exact Hold.drew (by assumption)) hB) | (have HS' := Hold.on (Hold.new (by assumption) _ _) hB) | (have HS' := Hold.on (Hold.drew (Hold.new (by assumption) _ _)) hB)); (first | (have HF' := Hold.top5 HS'; obtain ⟨f1, f2, f3, f4⟩ := HF') | skip))
   |(go_at_call 192; (with_reducible refine (HS.out _).mono ?_); rintro e w' ⟨rfl, hB⟩; (first | (have HS' := Hold.on (by first | assumption | exact Hold.drew (by assumption)) hB) | (have HS' := Hold.on (Hold.new (by assumption) _ _) hB) | (have HS' := Hold.on (Hold.drew (Hold.new (by assumption) _ _)) hB)); (first | (have HF' := Hold.top5 HS'; obtain ⟨f1, f2, f3, f4⟩ := HF') | skip)))
  all_goals
   (try go_wp2_with fail)
   go_meet
   first
    |exact ⟨_, rfl, Hold.two (Hold.new (by assumption) _ _)⟩
    |exact ⟨_, rfl, Hold.two (Hold.set2 (by assumption) _ _)⟩
 case rest =>
  obtain ⟨g7, rfl, HR⟩ := hcut
  obtain ⟨f1, f2, -, -⟩ := HR.top
  obtain ⟨k1, k2⟩ := HR.pt (.tail _ (.head _))
  obtain ⟨k3, k4⟩ := HR.fz (.tail _ (.head _))
  have HE := Hold.swap2 HR (.int .i64 (hiOf (crs a b c))) (.int .u64 (loOf (crs a b c)))
  obtain ⟨n1, n2⟩ := HE.pt (.tail _ (.head _))
  have HF := Lib.hid HE
  clear HE HR HQ HM1 HM2 HS
  go_wp2
  refine bodyPost_ret (v := .agg #[.int .i64 (hiOf (crs a b c)), .int .u64 (loOf (crs a b c))]) ?_ rfl ⟨rfl, HF.out.1⟩
  simp [results, Tryz.results182, go_sem, n1, n2]
end Go.Proofs.YtjlnjjmomohpaaaGreat

namespace Go.Proofs.YtjlnjjmomohpaaaGreat
open Go.RowKit

set_option maxHeartbeats 400000 in
theorem turn_any (a b c : Int × Int) (ha : Gd a) (hb : Gd b) (hc : Gd c) (w : World) :
  Calls Tryz.prog 195 #[.agg #[.int .i64 a.1, .int .i64 a.2], .agg #[.int .i64 b.1, .int .i64 b.2], .agg #[.int .i64 c.1, .int .i64 c.2]] w fun e w' => e = .returned (.int .i64 (sgn (crs a b c))) ∧ Below w.heap.size w w' := by
 have hx := fun W => cross_any a b c ha hb hc W
 have HX := Lib.hid hx
 have HC := Lib.hid (cmp_sgn (crs_inR ha hb hc))
 clear hx ha hb hc
 go_enter Tryz.func195, Tryz.ntmps195
 go_wp2_with fail
 go_at_call 182
 refine (HX.out _).mono ?_
 rintro e w1 ⟨rfl, hB⟩
 go_wp2_with fail
 go_at_call 137
 refine (sign_any _ _ _).mono ?_
 rintro e w2 ⟨rfl, hB2⟩
 go_wp2_with fail
 go_ret
 rw [HC.out]
 refine ⟨rfl, Below.trans (Below.trans (by go_grown) (hB.mono (by simp only [World.size_alloc]; omega))) (hB2.mono ?_)⟩
 have := hB.size
 simp only [World.size_alloc] at this
 omega

def onB (a b p : Int × Int) : Bool := (sgn (crs a b p) == 0) && wth p.1 (min a.1 b.1) (max a.1 b.1) && wth p.2 (min a.2 b.2) (max a.2 b.2)
theorem wth_btw {a b n : Int} : wth n (min a b) (max a b) = true ↔ btw a b n := by
 unfold wth btw
 simp only [Bool.and_eq_true, decide_eq_true_eq]
 omega
theorem onB_iff {a b p : Int × Int} : onB a b p = true ↔ OnS a b p := by
 unfold onB OnS
 rw [Bool.and_eq_true, Bool.and_eq_true, wth_btw, wth_btw, beq_iff_eq, sgn_zero, and_assoc]

section
variable {w W W' : World}
theorem Hold.two0 (w : World) (a b : Int × Int) : Hold w [(w.heap.size + 1, #[.int .i64 b.1, .int .i64 b.2], 56), (w.heap.size, #[.int .i64 a.1, .int .i64 a.2], 56)] ((w.alloc (Obj.cells #[.int .i64 a.1, .int .i64 a.2] 56)).alloc (Obj.cells #[.int .i64 b.1, .int .i64 b.2] 56)) :=
 ((Hold.refl w).new _ _).new' _ _ (by simp only [World.size_alloc])
theorem Hold.three0 (w : World) (a b c : Int × Int) : Hold w [(w.heap.size + 1 + 1, #[.int .i64 c.1, .int .i64 c.2], 56), (w.heap.size + 1, #[.int .i64 b.1, .int .i64 b.2], 56), (w.heap.size, #[.int .i64 a.1, .int .i64 a.2], 56)] (((w.alloc (Obj.cells #[.int .i64 a.1, .int .i64 a.2] 56)).alloc (Obj.cells #[.int .i64 b.1, .int .i64 b.2] 56)).alloc (Obj.cells #[.int .i64 c.1, .int .i64 c.2] 56)) :=
 (Hold.two0 w a b).new' _ _ (by simp only [World.size_alloc])
theorem Hold.four0 (w : World) (a b c d : Int × Int) : Hold w [(w.heap.size + 1 + 1 + 1, #[.int .i64 d.1, .int .i64 d.2], 56), (w.heap.size + 1 + 1, #[.int .i64 c.1, .int .i64 c.2], 56), (w.heap.size + 1, #[.int .i64 b.1, .int .i64 b.2], 56), (w.heap.size, #[.int .i64 a.1, .int .i64 a.2], 56)] ((((w.alloc (Obj.cells #[.int .i64 a.1, .int .i64 a.2] 56)).alloc (Obj.cells #[.int .i64 b.1, .int .i64 b.2] 56)).alloc (Obj.cells #[.int .i64 c.1, .int .i64 c.2] 56)).alloc (Obj.cells #[.int .i64 d.1, .int .i64 d.2] 56)) :=
 (Hold.three0 w a b c).new' _ _ (by simp only [World.size_alloc])
theorem Hold.rd2 {g0 g1 : Nat} {x0 y0 x1 y1 : Value} {t0 t1 : TypeId} (h : Hold w [(g1, #[x1, y1], t1), (g0, #[x0, y0], t0)] W) : W.cell? ⟨g0, 0, none⟩ = some x0 ∧ W.cell? ⟨g0, 1, none⟩ = some y0 ∧ W.cell? ⟨g1, 0, none⟩ = some x1 ∧ W.cell? ⟨g1, 1, none⟩ = some y1 :=
 ⟨(h.pt (.tail _ (.head _))).1, (h.pt (.tail _ (.head _))).2, (h.pt (.head _)).1, (h.pt (.head _)).2⟩
theorem Hold.rd3 {g0 g1 g2 : Nat} {x0 y0 x1 y1 x2 y2 : Value} {t0 t1 t2 : TypeId} (h : Hold w [(g2, #[x2, y2], t2), (g1, #[x1, y1], t1), (g0, #[x0, y0], t0)] W) : W.cell? ⟨g0, 0, none⟩ = some x0 ∧ W.cell? ⟨g0, 1, none⟩ = some y0 ∧ W.cell? ⟨g1, 0, none⟩ = some x1 ∧ W.cell? ⟨g1, 1, none⟩ = some y1 ∧ W.cell? ⟨g2, 0, none⟩ = some x2 ∧ W.cell? ⟨g2, 1, none⟩ = some y2 :=
 ⟨(h.tail.rd2).1, (h.tail.rd2).2.1, (h.tail.rd2).2.2.1, (h.tail.rd2).2.2.2, (h.pt (.head _)).1, (h.pt (.head _)).2⟩
theorem Hold.rd4 {g0 g1 g2 g3 : Nat} {x0 y0 x1 y1 x2 y2 x3 y3 : Value} {t0 t1 t2 t3 : TypeId} (h : Hold w [(g3, #[x3, y3], t3), (g2, #[x2, y2], t2), (g1, #[x1, y1], t1), (g0, #[x0, y0], t0)] W) : W.cell? ⟨g0, 0, none⟩ = some x0 ∧ W.cell? ⟨g0, 1, none⟩ = some y0 ∧ W.cell? ⟨g1, 0, none⟩ = some x1 ∧ W.cell? ⟨g1, 1, none⟩ = some y1 ∧ W.cell? ⟨g2, 0, none⟩ = some x2 ∧ W.cell? ⟨g2, 1, none⟩ = some y2 ∧ W.cell? ⟨g3, 0, none⟩ = some x3 ∧ W.cell? ⟨g3, 1, none⟩ = some y3 :=
 ⟨(h.tail.rd3).1, (h.tail.rd3).2.1, (h.tail.rd3).2.2.1, (h.tail.rd3).2.2.2.1, (h.tail.rd3).2.2.2.2.1, (h.tail.rd3).2.2.2.2.2, (h.pt (.head _)).1, (h.pt (.head _)).2⟩
end

set_option maxHeartbeats 800000 in
theorem on_any (a b p : Int × Int) (ha : Gd a) (hb : Gd b) (hp : Gd p) (w : World) :
  Calls Tryz.prog 194 #[.agg #[.int .i64 a.1, .int .i64 a.2], .agg #[.int .i64 b.1, .int .i64 b.2], .agg #[.int .i64 p.1, .int .i64 p.2]] w fun e w' => e = .returned (.bool (onB a b p)) ∧ Below w.heap.size w w' := by
 have hx := fun W => turn_any a b p ha hb hp W
 have HX := Lib.hid hx
 have m1 : (if b.1 < a.1 then b.1 else a.1) = min a.1 b.1 := by split <;> omega
 have m2 : (if a.1 < b.1 then b.1 else a.1) = max a.1 b.1 := by split <;> omega
 have m3 : (if b.2 < a.2 then b.2 else a.2) = min a.2 b.2 := by split <;> omega
 have m4 : (if a.2 < b.2 then b.2 else a.2) = max a.2 b.2 := by split <;> omega
 clear hx ha hb hp
 cases h1 : (sgn (crs a b p) == 0)
 ·have HG : Hid (onB a b p = false) := by unfold Hid onB; rw [h1]; rfl
  go_enter Tryz.func194, Tryz.ntmps194
  go_wp2_with fail
  go_at_call 195
  refine (HX.out _).mono ?_
  rintro e w1 ⟨rfl, hB⟩
  go_wp2
  go_ret
  rw [HG.out]
  exact ⟨rfl, Below.trans (by go_grown) (hB.mono (by simp only [World.size_alloc]; omega))⟩
 ·cases h2 : wth p.1 (min a.1 b.1) (max a.1 b.1)
  ·have HG : Hid (onB a b p = false) := by unfold Hid onB; rw [h2, Bool.and_false]; rfl
   go_enter Tryz.func194, Tryz.ntmps194
   go_wp2_with fail
   go_at_call 195
   refine (HX.out _).mono ?_
   rintro e w1 ⟨rfl, hB⟩
   obtain ⟨f1, f2, f3, f4, f5, f6⟩ := ((Hold.three0 w a b p).on hB).rd3
   go_wp2_with fail
   go_at_call 180
   refine (within_any _ _ _ _).mono ?_
   rintro e w2 ⟨rfl, rfl⟩
   go_wp2
   go_ret
   rw [HG.out]
   exact ⟨rfl, Below.trans (by go_grown) (hB.mono (by simp only [World.size_alloc]; omega))⟩
  ·have HG : Hid (onB a b p = wth p.2 (min a.2 b.2) (max a.2 b.2)) := by unfold Hid onB; rw [h1, h2]; rfl
   go_enter Tryz.func194, Tryz.ntmps194
   go_wp2_with fail
   go_at_call 195
   refine (HX.out _).mono ?_
   rintro e w1 ⟨rfl, hB⟩
   obtain ⟨f1, f2, f3, f4, f5, f6⟩ := ((Hold.three0 w a b p).on hB).rd3
   go_wp2_with fail
   go_at_call 180
   refine (within_any _ _ _ _).mono ?_
   rintro e w2 ⟨rfl, rfl⟩
   go_wp2_with fail
   go_at_call 180
   refine (within_any _ _ _ _).mono ?_
   rintro e w2 ⟨rfl, rfl⟩
   go_wp2
   go_ret
   rw [HG.out]
   exact ⟨rfl, Below.trans (by go_grown) (hB.mono (by simp only [World.size_alloc]; omega))⟩
end Go.Proofs.YtjlnjjmomohpaaaGreat

namespace Go.Proofs.YtjlnjjmomohpaaaGreat
open Go.RowKit

def Pts (w : World) (B : Nat) (A : Option Addr) (ps : List (Int × Int)) : Prop :=
 0 < ps.length → ∃ ad, A = some ad ∧ ad.block < B ∧ ∀ k p, ps[k]? = some p → w.cell? (ad.add (k * 2)) = some (.int .i64 p.1) ∧ w.cell? ((ad.add (k * 2)).add 1) = some (.int .i64 p.2)
theorem Pts.on {w w' : World} {A : Option Addr} {ps : List (Int × Int)} (h : Pts w w.heap.size A ps) (hb : Below w.heap.size w w') : Pts w' w'.heap.size A ps := by
 intro hp
 obtain ⟨ad, e, hlt, hc⟩ := h hp
 refine ⟨ad, e, Nat.lt_of_lt_of_le hlt hb.size, fun k p hk => ?_⟩
 obtain ⟨c0, c1⟩ := hc k p hk
 exact ⟨(hb.cell (by rw [block_of_add]; exact hlt)).trans c0, (hb.cell (by rw [block_of_add, block_of_add]; exact hlt)).trans c1⟩
theorem Pts.at {w wr : World} {A : Option Addr} {ps : List (Int × Int)} (h : Pts w w.heap.size A ps) (hb : Below w.heap.size w wr) {k : Nat} (hk : k < ps.length) : ∃ ad, A = some ad ∧ ad.block < w.heap.size ∧ wr.cell? (ad.add (k * 2)) = some (.int .i64 ps[k].1) ∧ wr.cell? ⟨(ad.add (k * 2)).block, (ad.add (k * 2)).off + 1, none⟩ = some (.int .i64 ps[k].2) := by
 obtain ⟨ad, rfl, hadb, hc⟩ := h (by omega)
 have hp : ps[k]? = some ps[k] := List.getElem?_eq_getElem hk
 obtain ⟨c0, c1⟩ := hc k _ hp
 refine ⟨ad, rfl, hadb, (hb.cell (by rw [block_of_add]; exact hadb)).trans c0, ?_⟩
 have := (hb.cell (p := (ad.add (k * 2)).add 1) (by rw [block_of_add, block_of_add]; exact hadb)).trans c1
 simpa [Addr.add] using this

theorem gd_wth (p : Int × Int) : gd p = (wth p.1 (-1073741824) 1073741824 && wth p.2 (-1073741824) 1073741824) := by
 unfold gd wth
 rw [Bool.eq_iff_iff, decide_eq_true_iff]
 simp only [Bool.and_eq_true, decide_eq_true_eq]
 unfold Gd
 omega
theorem gd_iff {p : Int × Int} : gd p = true ↔ Gd p := by unfold gd; exact decide_eq_true_iff
theorem gdL_cons (p : Int × Int) (ps : List (Int × Int)) : gdL (p :: ps) = (gd p && gdL ps) := rfl

set_option maxHeartbeats 800000 in
theorem good_any (ps : List (Int × Int)) (A : Option Addr) (cap : Nat) (w : World) (hn : ps.length ≤ maxLen) (hr : Pts w w.heap.size A ps) :
  Calls Tryz.prog 162 #[.slice A ps.length cap] w fun e w' => e = .returned (.bool (gdL ps)) ∧ Below w.heap.size w w' := by
 unfold maxLen at hn
 go_enter Tryz.func162, Tryz.ntmps162
 go_wp2
 go_loopw [7] (fun i wr => ∃ k : Nat, k ≤ ps.length ∧ i = .int .i64 k ∧ gdL ps = gdL (ps.drop k) ∧ Below w.heap.size w wr) (fun i _ => ps.length - (intOf i).toNat)
 case atStart => exact ⟨0, Nat.zero_le _, rfl, rfl, by go_grown⟩
 case round =>
  obtain ⟨k, hk, rfl, hall, hB⟩ := hrel
  by_cases hlt : k < ps.length
  ·obtain ⟨ad, rfl, hadb, d0, d1⟩ := hr.at hB hlt
   have hdrop : ps.drop k = ps[k] :: ps.drop (k + 1) := List.drop_eq_getElem_cons hlt
   rw [hdrop, gdL_cons, gd_wth] at hall
   clear hr hdrop
   generalize ps[k] = p at *
   cases h1 : wth p.1 (-1073741824) 1073741824
   ·have HG : Hid (gdL ps = false) := by unfold Hid; rw [hall, h1]; rfl
    clear hall
    go_wp2_with fail
    go_at_call 180
    refine (within_any _ _ _ _).mono ?_
    rintro e w2 ⟨rfl, rfl⟩
    go_wp2
    go_ret
    rw [HG.out]
    exact ⟨rfl, hB.alloc hB.size _⟩
   ·cases h2 : wth p.2 (-1073741824) 1073741824
    ·have HG : Hid (gdL ps = false) := by unfold Hid; rw [hall, h1, h2]; rfl
     clear hall
     go_wp2_with fail
     go_at_call 180
     refine (within_any _ _ _ _).mono ?_
     rintro e w2 ⟨rfl, rfl⟩
     go_wp2_with fail
     go_at_call 180
     refine (within_any _ _ _ _).mono ?_
     rintro e w2 ⟨rfl, rfl⟩
     go_wp2
     go_ret
     rw [HG.out]
     exact ⟨rfl, hB.alloc hB.size _⟩
    ·have HG : Hid (gdL ps = gdL (ps.drop (k + 1))) := by unfold Hid; rw [hall, h1, h2]; rfl
     clear hall
     go_wp2_with fail
     go_at_call 180
     refine (within_any _ _ _ _).mono ?_
     rintro e w2 ⟨rfl, rfl⟩
     go_wp2_with fail
     go_at_call 180
     refine (within_any _ _ _ _).mono ?_
     rintro e w2 ⟨rfl, rfl⟩
     go_wp2
     exact ⟨⟨k + 1, by omega, by go_num, HG.out, hB.alloc hB.size _⟩, by simp [intOf]; omega⟩
  ·obtain rfl : k = ps.length := by omega
   have HG : Hid (gdL ps = true) := by unfold Hid; rw [hall, List.drop_length]; rfl
   clear hall
   go_wp2
   go_ret
   rw [HG.out]
   exact ⟨rfl, hB⟩
end Go.Proofs.YtjlnjjmomohpaaaGreat
