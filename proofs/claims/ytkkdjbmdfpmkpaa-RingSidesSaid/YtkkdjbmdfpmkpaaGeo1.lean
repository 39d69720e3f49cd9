/- The contracts of the program's calls on points: whether a number is between two, the cross product, the side of a way. -/
import Derived.Test.YtkkdjbmdfpmkpaaHold
import Derived.Test.YtkkdjbmdfpmkpaaGeoPlain
import Derived.Deep.RegionHeld3
import Derived.Deep.DeepCutAuto
namespace Go.Proofs.Ytkkdjbmdfpmkpaa
open Go.RowKit

theorem wrap_in {n : Int} (h1 : -9223372036854775808 ≤ n) (h2 : n ≤ 9223372036854775807) : IntKind.i64.wrap n = n := by rw [IntKind.wrap_i64]; omega
/-- Whether a number is between two. -/
def wth (n lo hi : Int) : Bool := decide (lo ≤ n) && decide (n ≤ hi)
theorem within_any (n lo hi : Int) (w : World) :
    Calls Try.prog 47 #[.int .i64 n, .int .i64 lo, .int .i64 hi] w fun e w' => e = .returned (.bool (wth n lo hi)) ∧ w = w' := by
  by_cases h1 : lo ≤ n
  · by_cases h2 : n ≤ hi
    · have HG : Hid (wth n lo hi = true) := by unfold Hid wth; simp [h1, h2]
      go_enter Try.func47, Try.ntmps47
      go_wp2
      go_ret
      rw [HG.out]
      exact ⟨rfl, rfl⟩
    · have HG : Hid (wth n lo hi = false) := by unfold Hid wth; simp [h2]
      go_enter Try.func47, Try.ntmps47
      go_wp2
      go_ret
      rw [HG.out]
      exact ⟨rfl, rfl⟩
  · have HG : Hid (wth n lo hi = false) := by unfold Hid wth; simp [h1]
    go_enter Try.func47, Try.ntmps47
    go_wp2
    go_ret
    rw [HG.out]
    exact ⟨rfl, rfl⟩

section
variable {w W W' : World} {g g' g'' g6 : Nat} {cs : Array Value} {x y x' y' x'' y'' : Value} {t t' t'' t6 : TypeId}
/-- Three points, and one block more: what a walk reads of the points. -/
theorem Hold.abc (h : Hold w [(g6, cs, t6), (g'', #[x'', y''], t''), (g', #[x', y'], t'), (g, #[x, y], t)] W) : W.cell? ⟨g, 0, none⟩ = some x ∧ W.cell? ⟨g, 1, none⟩ = some y ∧ W.cell? ⟨g', 0, none⟩ = some x' ∧ W.cell? ⟨g', 1, none⟩ = some y' ∧ W.cell? ⟨g'', 0, none⟩ = some x'' ∧ W.cell? ⟨g'', 1, none⟩ = some y'' :=
  ⟨(h.pt (.tail _ (.tail _ (.tail _ (.head _))))).1, (h.pt (.tail _ (.tail _ (.tail _ (.head _))))).2, (h.pt (.tail _ (.tail _ (.head _)))).1, (h.pt (.tail _ (.tail _ (.head _)))).2, (h.pt (.tail _ (.head _))).1, (h.pt (.tail _ (.head _))).2⟩
theorem Hold.abc5 {g7 : Nat} {cs7 : Array Value} {t7 : TypeId} (h : Hold w [(g7, cs7, t7), (g6, cs, t6), (g'', #[x'', y''], t''), (g', #[x', y'], t'), (g, #[x, y], t)] W) : W.cell? ⟨g, 0, none⟩ = some x ∧ W.cell? ⟨g, 1, none⟩ = some y ∧ W.cell? ⟨g', 0, none⟩ = some x' ∧ W.cell? ⟨g', 1, none⟩ = some y' ∧ W.cell? ⟨g'', 0, none⟩ = some x'' ∧ W.cell? ⟨g'', 1, none⟩ = some y'' := h.tail.abc
theorem Hold.two {e1 e2 e3 e4 e5 : Nat × Array Value × TypeId} (h : Hold w [e1, e2, e3, e4, e5] W) : Hold w [e1, e2] W := h.sub (by simp)
theorem Hold.top5 {g7 : Nat} {a b : Value} {t7 : TypeId} {e1 e2 e3 e4 : Nat × Array Value × TypeId} (h : Hold w [(g7, #[a, b], t7), e1, e2, e3, e4] W) : W.cell? ⟨g7, 0, none⟩ = some a ∧ W.cell? ⟨g7, 1, none⟩ = some b ∧ W.frozen? ⟨g7, 0, none⟩ = false ∧ W.frozen? ⟨g7, 1, none⟩ = false := h.top
end

set_option maxRecDepth 100000 in
set_option maxHeartbeats 2000000 in
theorem cross_any (a b c : Int × Int) (ha : Gd a) (hb : Gd b) (hc : Gd c) (w : World) :
    Calls Try.prog 49 #[.agg #[.int .i64 a.1, .int .i64 a.2], .agg #[.int .i64 b.1, .int .i64 b.2], .agg #[.int .i64 c.1, .int .i64 c.2]] w fun e w' => e = .returned (.agg #[.int .i64 (hiOf (crs a b c)), .int .u64 (loOf (crs a b c))]) ∧ Below w.heap.size w w' := by
  have ha' := ha
  have hb' := hb
  have hc' := hc
  unfold Gd at ha' hb' hc'
  have q1 := wrap_in (n := b.1 - a.1) (by omega) (by omega)
  have q2 := wrap_in (n := c.2 - a.2) (by omega) (by omega)
  have q3 := wrap_in (n := b.2 - a.2) (by omega) (by omega)
  have q4 := wrap_in (n := c.1 - a.1) (by omega) (by omega)
  have hm1 := fun W => mul_any (b.1 - a.1) (c.2 - a.2) W (by omega) (by omega) (by omega) (by omega)
  have hm2 := fun W => mul_any (b.2 - a.2) (c.1 - a.1) W (by omega) (by omega) (by omega) (by omega)
  have i1 : InR ((b.1 - a.1) * (c.2 - a.2)) := by have := crs_mul ha hb hc; unfold InR; omega
  have i2 : InR ((b.2 - a.2) * (c.1 - a.1)) := by have := crs_mul' ha hb hc; unfold InR; omega
  have hs := fun W => sub_any _ _ _ _ (wf_of i1) (wf_of i2) W
  obtain ⟨s1, s2, s3⟩ := sub_of i1 i2 (crs_inR ha hb hc)
  rw [s1, s2, s3] at hs
  have HM1 := Lib.hid hm1
  have HM2 := Lib.hid hm2
  have HS := Lib.hid hs
  clear hm1 hm2 hs s1 s2 s3 i1 i2 ha hb hc ha' hb' hc'
  go_enter Try.func49, Try.ntmps49
  go_upto_region 1 with (fail)
  have HQ := ((((Hold.refl w).new #[.int .i64 a.1, .int .i64 a.2] 35).new #[.int .i64 b.1, .int .i64 b.2] 35).new #[.int .i64 c.1, .int .i64 c.2] 35).new #[.int .i64 0, .int .u64 0] 26
  simp only [World.size_alloc] at HQ
  generalize (World.alloc _ _) = W1 at HQ ⊢
  generalize w.heap.size + 1 + 1 + 1 = g6 at HQ ⊢
  generalize w.heap.size + 1 + 1 = g5 at HQ ⊢
  generalize w.heap.size + 1 = g4 at HQ ⊢
  go_cut [7] (fun s7 wx => ∃ g7, s7 = .pointer (some ⟨g7, 0, none⟩) ∧ Hold w [(g7, #[.int .i64 (hiOf (crs a b c)), .int .u64 (loOf (crs a b c))], 26), (g6, #[.int .i64 0, .int .u64 0], 26)] wx)
  case first =>
    go_region_held3 (fun W => W.cell? ⟨w.heap.size, 0, none⟩ = some (.int .i64 a.1) ∧ W.cell? ⟨w.heap.size, 1, none⟩ = some (.int .i64 a.2) ∧ W.cell? ⟨g4, 0, none⟩ = some (.int .i64 b.1) ∧ W.cell? ⟨g4, 1, none⟩ = some (.int .i64 b.2) ∧ W.cell? ⟨g5, 0, none⟩ = some (.int .i64 c.1) ∧ W.cell? ⟨g5, 1, none⟩ = some (.int .i64 c.2)) (first | exact Hold.abc (by assumption) | exact Hold.abc5 (by assumption) | exact Hold.abc (Hold.drew (by assumption)) | exact Hold.abc5 (Hold.drew (by assumption)) | exact Hold.abc5 (Hold.new (by assumption) _ _) | exact Hold.abc5 (Hold.drew (Hold.new (by assumption) _ _)) | exact Hold.abc5 (Hold.set2 (by assumption) _ _) | exact Hold.abc5 (Hold.set2 (Hold.new (by assumption) _ _) _ _)) (first
      | (go_at_call 65; (with_reducible refine (HM1.out _).mono ?_); rintro e w' ⟨rfl, hB⟩; (first | (have HS' := Hold.on (by first | assumption | exact Hold.drew (by assumption)) hB) | (have HS' := Hold.on (Hold.new (by assumption) _ _) hB) | (have HS' := Hold.on (Hold.drew (Hold.new (by assumption) _ _)) hB)); (first | (have HF' := Hold.top5 HS'; obtain ⟨f1, f2, f3, f4⟩ := HF') | skip))
      | (go_at_call 65; (with_reducible refine (HM2.out _).mono ?_); rintro e w' ⟨rfl, hB⟩; (first | (have HS' := Hold.on (by first | assumption | exact Hold.drew (by assumption)) hB) | (have HS' := Hold.on (Hold.new (by assumption) _ _) hB) | (have HS' := Hold.on (Hold.drew (Hold.new (by assumption) _ _)) hB)); (first | (have HF' := Hold.top5 HS'; obtain ⟨f1, f2, f3, f4⟩ := HF') | skip))
      | (go_at_call 64; (with_reducible refine (HS.out _).mono ?_); rintro e w' ⟨rfl, hB⟩; (first | (have HS' := Hold.on (by first | assumption | exact Hold.drew (by assumption)) hB) | (have HS' := Hold.on (Hold.new (by assumption) _ _) hB) | (have HS' := Hold.on (Hold.drew (Hold.new (by assumption) _ _)) hB)); (first | (have HF' := Hold.top5 HS'; obtain ⟨f1, f2, f3, f4⟩ := HF') | skip)))
    all_goals
      (try go_wp2_with fail)
      go_meet
      first
        | exact ⟨_, rfl, Hold.two (Hold.new (by assumption) _ _)⟩
        | exact ⟨_, rfl, Hold.two (Hold.set2 (by assumption) _ _)⟩
  case rest =>
    obtain ⟨g7, rfl, HR⟩ := hcut
    obtain ⟨f1, f2, -, -⟩ := HR.top
    obtain ⟨k1, k2⟩ := HR.pt (.tail _ (.head _))
    obtain ⟨k3, k4⟩ := HR.fz (.tail _ (.head _))
    have HE := Hold.swap2 HR (.int .i64 (hiOf (crs a b c))) (.int .u64 (loOf (crs a b c)))
    obtain ⟨n1, n2⟩ := HE.pt (.tail _ (.head _))
    have HF := Lib.hid HE
    clear HE HR HQ HM1 HM2 HS
    go_wp2
    refine bodyPost_ret (v := .agg #[.int .i64 (hiOf (crs a b c)), .int .u64 (loOf (crs a b c))]) ?_ rfl ⟨rfl, HF.out.1⟩
    simp [results, Try.results49, go_sem, n1, n2]
end Go.Proofs.Ytkkdjbmdfpmkpaa
