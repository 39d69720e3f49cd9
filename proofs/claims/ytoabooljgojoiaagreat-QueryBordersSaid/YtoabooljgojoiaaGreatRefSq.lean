/- The contract of the document's own answer Square. -/
import Derived.Test.YtoabooljgojoiaaGreatGeoAns
import Derived.Test.YtoabooljgojoiaaGreatRefMul
namespace Go.Proofs.YtoabooljgojoiaaGreat
open Go.RowKit

section
variable {w W : World} {g g' g6 g7 : Nat} {cs cs7 : Array Value} {x y x' y' : Value} {t t' t6 t7 : TypeId}
theorem Hold.ab (h : Hold w [(g6, cs, t6), (g', #[x', y'], t'), (g, #[x, y], t)] W) : W.cell? ⟨g, 0, none⟩ = some x ∧ W.cell? ⟨g, 1, none⟩ = some y ∧ W.cell? ⟨g', 0, none⟩ = some x' ∧ W.cell? ⟨g', 1, none⟩ = some y' := h.tail.rd2
theorem Hold.ab4 (h : Hold w [(g7, cs7, t7), (g6, cs, t6), (g', #[x', y'], t'), (g, #[x, y], t)] W) : W.cell? ⟨g, 0, none⟩ = some x ∧ W.cell? ⟨g, 1, none⟩ = some y ∧ W.cell? ⟨g', 0, none⟩ = some x' ∧ W.cell? ⟨g', 1, none⟩ = some y' := h.tail.ab
theorem Hold.top4 {a b : Value} {e1 e2 e3 : Nat × Array Value × TypeId} (h : Hold w [(g7, #[a, b], t7), e1, e2, e3] W) : W.cell? ⟨g7, 0, none⟩ = some a ∧ W.cell? ⟨g7, 1, none⟩ = some b ∧ W.frozen? ⟨g7, 0, none⟩ = false ∧ W.frozen? ⟨g7, 1, none⟩ = false := h.top
theorem Hold.two4 {e1 e2 e3 e4 : Nat × Array Value × TypeId} (h : Hold w [e1, e2, e3, e4] W) : Hold w [e1, e2] W := h.sub (by simp)
end

theorem ref_sqr_calls {a b : Int × Int} (ha : Gd a) (hb : Gd b) : Hid (IntKind.i64.wrap (b.1 - a.1) = b.1 - a.1) ∧ Hid (IntKind.i64.wrap (b.2 - a.2) = b.2 - a.2) ∧
  Hid (∀ W, Calls Tryz.prog 48 #[.int .i64 (b.1 - a.1), .int .i64 (b.1 - a.1)] W fun e w' => e = .returned (.agg #[.int .i64 (hiOf ((b.1 - a.1) * (b.1 - a.1))), .int .u64 (loOf ((b.1 - a.1) * (b.1 - a.1)))]) ∧ Below W.heap.size W w') ∧
  Hid (∀ W, Calls Tryz.prog 48 #[.int .i64 (b.2 - a.2), .int .i64 (b.2 - a.2)] W fun e w' => e = .returned (.agg #[.int .i64 (hiOf ((b.2 - a.2) * (b.2 - a.2))), .int .u64 (loOf ((b.2 - a.2) * (b.2 - a.2)))]) ∧ Below W.heap.size W w') ∧
  Hid (∀ W, Calls Tryz.prog 47 #[.agg #[.int .i64 (hiOf ((b.1 - a.1) * (b.1 - a.1))), .int .u64 (loOf ((b.1 - a.1) * (b.1 - a.1)))], .agg #[.int .i64 (hiOf ((b.2 - a.2) * (b.2 - a.2))), .int .u64 (loOf ((b.2 - a.2) * (b.2 - a.2)))]] W fun e w' => e = .returned (.tuple #[.agg #[.int .i64 (hiOf (sqr a b)), .int .u64 (loOf (sqr a b))], .int .i64 0]) ∧ Below W.heap.size W w') := by
 have hl := sqr_lim ha hb
 have i3 : InR (sqr a b) := by unfold InR; omega
 unfold Gd at ha hb
 have l1 := mul_lim (x := b.1 - a.1) (y := b.1 - a.1) (P := 2147483648) (Q := 2147483648) (by omega) (by omega)
 have l2 := mul_lim (x := b.2 - a.2) (y := b.2 - a.2) (P := 2147483648) (Q := 2147483648) (by omega) (by omega)
 have i1 : InR ((b.1 - a.1) * (b.1 - a.1)) := by unfold InR; omega
 have i2 : InR ((b.2 - a.2) * (b.2 - a.2)) := by unfold InR; omega
 obtain ⟨s1, s2, s3⟩ := add_of i1 i2 i3
 have hs := fun W => ref_add _ _ _ _ (wf_of i1) (wf_of i2) W
 rw [s1, s2, s3] at hs
 exact ⟨wrap_in (by omega) (by omega), wrap_in (by omega) (by omega), fun W => ref_mul _ _ (by omega) (by omega) (by omega) (by omega) W, fun W => ref_mul _ _ (by omega) (by omega) (by omega) (by omega) W, hs⟩

set_option maxRecDepth 100000 in
set_option maxHeartbeats 2000000 in
theorem ref_square (a b : Int × Int) (ha : Gd a) (hb : Gd b) (w : World) :
  Calls Tryz.prog 21 #[.agg #[.int .i64 a.1, .int .i64 a.2], .agg #[.int .i64 b.1, .int .i64 b.2]] w fun e w' => e = .returned (.agg #[.int .i64 (hiOf (sqr a b)), .int .u64 (loOf (sqr a b))]) ∧ Below w.heap.size w w' := by
 obtain ⟨s1, s2, HM1, HM2, HS⟩ := ref_sqr_calls ha hb
 have q1 := s1.out
 have q2 := s2.out
 clear s1 s2 ha hb
 have HQ := (Hold.two0 w a b).new' #[.int .i64 0, .int .u64 0] 64 (n := w.heap.size + 1 + 1) (by simp only [World.size_alloc])
 go_enter Tryz.func21, Tryz.ntmps21
 go_upto_region 1 with (fail)
 generalize (World.alloc _ _) = W1 at HQ ⊢
 generalize w.heap.size + 1 + 1 = g2 at HQ ⊢
 generalize w.heap.size + 1 = g1 at HQ ⊢
 go_cut [5] (fun s5 wx => ∃ g7, s5 = .pointer (some ⟨g7, 0, none⟩) ∧ Hold w [(g7, #[.int .i64 (hiOf (sqr a b)), .int .u64 (loOf (sqr a b))], 64), (g2, #[.int .i64 0, .int .u64 0], 64)] wx)
 case first =>
  go_region_held3 (fun W => W.cell? ⟨w.heap.size, 0, none⟩ = some (.int .i64 a.1) ∧ W.cell? ⟨w.heap.size, 1, none⟩ = some (.int .i64 a.2) ∧ W.cell? ⟨g1, 0, none⟩ = some (.int .i64 b.1) ∧ W.cell? ⟨g1, 1, none⟩ = some (.int .i64 b.2)) (first | exact Hold.ab (by assumption) | exact Hold.ab4 (by assumption) | exact Hold.ab (Hold.drew (by assumption)) | exact Hold.ab4 (Hold.drew (by assumption)) | exact Hold.ab4 (Hold.new (by assumption) _ _) | exact Hold.ab4 (Hold.drew (Hold.new (by assumption) _ _)) | exact Hold.ab4 (Hold.set2 (by assumption) _ _) | exact Hold.ab4 (Hold.set2 (Hold.new (by assumption) _ _) _ _)) (first
   |(go_at_call 48; (with_reducible refine (HM1.out _).mono ?_); rintro e w' ⟨rfl, hB⟩; (first | (have HS' := Hold.on (by first | assumption | exact Hold.drew (by assumption)) hB) | (have HS' := Hold.on (Hold.new (by assumption) _ _) hB) | (have HS' := Hold.on (Hold.drew (Hold.new (by assumption) _ _)) hB)); (first | (have HF' := Hold.top4 HS'; obtain ⟨f1, f2, f3, f4⟩ := HF') | skip))
   |(go_at_call 48; (with_reducible refine (HM2.out _).mono ?_); rintro e w' ⟨rfl, hB⟩; (first | (have HS' := Hold.on (by first | assumption | exact Hold.drew (by assumption)) hB) | (have HS' := Hold.on (Hold.new (by assumption) _ _) hB) | (have HS' := Hold.on (Hold.drew (Hold.new (by assumption) _ _)) hB)); (first | (have HF' := Hold.top4 HS'; obtain ⟨f1, f2, f3, f4⟩ := HF') | skip))
   |(go_at_call 47; (with_reducible refine (HS.out _).mono ?_); rintro e w' ⟨rfl, hB⟩; (first | (have HS' := Hold.on (by first | assumption | exact Hold.drew (by assumption)) hB) | (have HS' := Hold.on (Hold.new (by assumption) _ _) hB) | (have HS' := Hold.on (Hold.drew (Hold.new (by assumption) _ _)) hB)); (first | (have HF' := Hold.top4 HS'; obtain ⟨f1, f2, f3, f4⟩ := HF') | skip)))
  all_goals
   (try go_wp2_with fail)
   go_meet
   first
    |exact ⟨_, rfl, Hold.two4 (Hold.new (by assumption) _ _)⟩
    |exact ⟨_, rfl, Hold.two4 (Hold.set2 (by assumption) _ _)⟩
 case rest =>
  obtain ⟨g7, rfl, HR⟩ := hcut
  obtain ⟨f1, f2, -, -⟩ := HR.top
  obtain ⟨k1, k2⟩ := HR.pt (.tail _ (.head _))
  obtain ⟨k3, k4⟩ := HR.fz (.tail _ (.head _))
  have HE := Hold.swap2 HR (.int .i64 (hiOf (sqr a b))) (.int .u64 (loOf (sqr a b)))
  obtain ⟨n1, n2⟩ := HE.pt (.tail _ (.head _))
  have HF := Lib.hid HE
  clear HE HR HQ HM1 HM2 HS
  go_wp2
  refine bodyPost_ret (v := .agg #[.int .i64 (hiOf (sqr a b)), .int .u64 (loOf (sqr a b))]) ?_ rfl ⟨rfl, HF.out.1⟩
  simp [results, Tryz.results21, go_sem, n1, n2]
end Go.Proofs.YtoabooljgojoiaaGreat
