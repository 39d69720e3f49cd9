/- The law GeoTurns: on which side of a way a point is, and twice the area of the three. -/
import Derived.Test.YtmoppjkfdhfmoaaGeoAns
import Derived.Test.YtmoppjkfdhfmoaaRefMul
import Derived.Test.YtmoppjkfdhfmoaaRefTell
namespace Go.Proofs.Ytmoppjkfdhfmoaa
open Go.RowKit
/-- What a cross product's calls come to, of the document's own numbers. -/
theorem ref_crs_calls {a b c : Int × Int} (ha : Gd a) (hb : Gd b) (hc : Gd c) : Hid (IntKind.i64.wrap (b.1 - a.1) = b.1 - a.1) ∧ Hid (IntKind.i64.wrap (c.2 - a.2) = c.2 - a.2) ∧ Hid (IntKind.i64.wrap (b.2 - a.2) = b.2 - a.2) ∧ Hid (IntKind.i64.wrap (c.1 - a.1) = c.1 - a.1) ∧
    Hid (∀ W, Calls Try.prog 15 #[.int .i64 (b.1 - a.1), .int .i64 (c.2 - a.2)] W fun e w' => e = .returned (.agg #[.int .i64 (hiOf ((b.1 - a.1) * (c.2 - a.2))), .int .u64 (loOf ((b.1 - a.1) * (c.2 - a.2)))]) ∧ Below W.heap.size W w') ∧
    Hid (∀ W, Calls Try.prog 15 #[.int .i64 (b.2 - a.2), .int .i64 (c.1 - a.1)] W fun e w' => e = .returned (.agg #[.int .i64 (hiOf ((b.2 - a.2) * (c.1 - a.1))), .int .u64 (loOf ((b.2 - a.2) * (c.1 - a.1)))]) ∧ Below W.heap.size W w') ∧
    Hid (∀ W, Calls Try.prog 14 #[.agg #[.int .i64 (hiOf ((b.1 - a.1) * (c.2 - a.2))), .int .u64 (loOf ((b.1 - a.1) * (c.2 - a.2)))], .agg #[.int .i64 (hiOf ((b.2 - a.2) * (c.1 - a.1))), .int .u64 (loOf ((b.2 - a.2) * (c.1 - a.1)))]] W fun e w' => e = .returned (.tuple #[.agg #[.int .i64 (hiOf (crs a b c)), .int .u64 (loOf (crs a b c))], .int .i64 0]) ∧ Below W.heap.size W w') ∧
    Hid (∀ W, Calls Try.prog 16 #[.agg #[.int .i64 (hiOf (crs a b c)), .int .u64 (loOf (crs a b c))]] W fun e w' => e = .returned (.int .i64 (sgn (crs a b c))) ∧ Below W.heap.size W w') := by
  have i1 : InR ((b.1 - a.1) * (c.2 - a.2)) := by have := crs_mul ha hb hc; unfold InR; omega
  have i2 : InR ((b.2 - a.2) * (c.1 - a.1)) := by have := crs_mul' ha hb hc; unfold InR; omega
  have i3 := crs_inR ha hb hc
  obtain ⟨s1, s2, s3⟩ := sub_of i1 i2 i3
  have hs := fun W => ref_sub _ _ _ _ (wf_of i1) (wf_of i2) W
  rw [s1, s2, s3] at hs
  have hg := fun W => ref_sign _ _ (wf_of i3) W
  rw [cmp_sgn i3] at hg
  unfold Gd at ha hb hc
  exact ⟨wrap_in (by omega) (by omega), wrap_in (by omega) (by omega), wrap_in (by omega) (by omega), wrap_in (by omega) (by omega), fun W => ref_mul _ _ (by omega) (by omega) (by omega) (by omega) W, fun W => ref_mul _ _ (by omega) (by omega) (by omega) (by omega) W, hs, hg⟩
end Go.Proofs.Ytmoppjkfdhfmoaa
namespace Go.Proofs.Ytmoppjkfdhfmoaa.geoTurns
open Go.RowKit
set_option maxRecDepth 100000 in
set_option maxHeartbeats 2000000 in
theorem law_walk (a b c : Int × Int) (w : World) :
    Calls Try.prog 3 #[.agg #[.int .i64 a.1, .int .i64 a.2], .agg #[.int .i64 b.1, .int .i64 b.2], .agg #[.int .i64 c.1, .int .i64 c.2]] w fun e w' => e = .returned (.bool true) ∧ Below w.heap.size w w' := by
  cases hg : gdL [a, b, c]
  · have HX := Lib.hid (fun W => Turn_bad a b c hg W)
    have HY := Lib.hid (fun W => Cross_bad a b c hg W)
    have HQ := Hold.three0 w a b c
    go_enter Try.func3, Try.ntmps3
    go_upto_region 1 with (fail)
    generalize (World.alloc _ _) = W1 at HQ ⊢
    generalize w.heap.size + 1 + 1 = g2 at HQ ⊢
    generalize w.heap.size + 1 = g1 at HQ ⊢
    obtain ⟨f0, f1, f2, f3, f4, f5⟩ := HQ.rd3
    go_wp2_with fail
    go_at_call 9
    refine (HX.out _).mono ?_
    rintro e w' ⟨rfl, hB⟩
    replace HQ := HQ.on hB
    clear hB f0 f1 f2 f3 f4 f5
    obtain ⟨f0, f1, f2, f3, f4, f5⟩ := HQ.rd3
    go_wp2_with fail
    go_at_call 10
    refine (HY.out _).mono ?_
    rintro e w' ⟨rfl, hB⟩
    replace HQ := HQ.on hB
    clear hB f0 f1 f2 f3 f4 f5
    replace HQ := HQ.new #[.int .i64 0, .int .u64 0] 29
    go_upto_region 3 with (fail)
    generalize (World.alloc w' _) = W9 at HQ ⊢
    generalize w'.heap.size = g9 at HQ ⊢
    clear w'
    obtain ⟨f0, f1, f2, f3, f4, f5, f6, f7⟩ := HQ.rd31
    go_wp2_with fail
    go_at_call 11
    refine (ref_good_three a b c _ _ _).mono ?_
    rintro e w' ⟨rfl, hB⟩
    replace HQ := (HQ.alloc _).on (hB.mono (by simp only [World.size_alloc]; omega))
    clear hB f0 f1 f2 f3 f4 f5 f6 f7
    obtain ⟨f0, f1, f2, f3, f4, f5, f6, f7⟩ := HQ.rd31
    go_wp2_with fail
    go_at_call 12
    refine (answers_any _).mono ?_
    rintro e w' ⟨rfl, hB⟩
    replace HQ := HQ.on hB
    clear hB f0 f1 f2 f3 f4 f5 f6 f7
    obtain ⟨f0, f1, f2, f3, f4, f5, f6, f7⟩ := HQ.rd31
    go_wp2_with fail
    go_at_call 13
    refine (good_three a b c _ _ _).mono ?_
    rintro e w' ⟨rfl, hB⟩
    replace HQ := (HQ.alloc _).on (hB.mono (by simp only [World.size_alloc]; omega))
    clear hB f0 f1 f2 f3 f4 f5 f6 f7
    obtain ⟨f0, f1, f2, f3, f4, f5, f6, f7⟩ := HQ.rd31
    have HB := Lib.hid HQ.1
    clear HQ
    go_wp2
    go_ret
    exact ⟨rfl, HB.out⟩
  · have HX := Lib.hid (fun W => Turn_good a b c hg W)
    have HY := Lib.hid (fun W => Cross_good a b c hg W)
    obtain ⟨ha, hb, hc⟩ := gdL_three.1 hg
    obtain ⟨s1, s2, s3, s4, HM1, HM2, HS, HG⟩ := ref_crs_calls ha hb hc
    have q1 := s1.out
    have q2 := s2.out
    have q3 := s3.out
    have q4 := s4.out
    clear s1 s2 s3 s4 ha hb hc
    have HQ := Hold.three0 w a b c
    go_enter Try.func3, Try.ntmps3
    go_upto_region 1 with (fail)
    generalize (World.alloc _ _) = W1 at HQ ⊢
    generalize w.heap.size + 1 + 1 = g2 at HQ ⊢
    generalize w.heap.size + 1 = g1 at HQ ⊢
    obtain ⟨f0, f1, f2, f3, f4, f5⟩ := HQ.rd3
    go_wp2_with fail
    go_at_call 9
    refine (HX.out _).mono ?_
    rintro e w' ⟨rfl, hB⟩
    replace HQ := HQ.on hB
    clear hB f0 f1 f2 f3 f4 f5
    obtain ⟨f0, f1, f2, f3, f4, f5⟩ := HQ.rd3
    go_wp2_with fail
    go_at_call 10
    refine (HY.out _).mono ?_
    rintro e w' ⟨rfl, hB⟩
    replace HQ := HQ.on hB
    clear hB f0 f1 f2 f3 f4 f5
    replace HQ := HQ.new #[.int .i64 (hiOf (crs a b c)), .int .u64 (loOf (crs a b c))] 29
    go_upto_region 3 with (fail)
    generalize (World.alloc w' _) = W9 at HQ ⊢
    generalize w'.heap.size = g9 at HQ ⊢
    clear w'
    obtain ⟨f0, f1, f2, f3, f4, f5, f6, f7⟩ := HQ.rd31
    go_wp2_with fail
    go_at_call 11
    refine (ref_good_three a b c _ _ _).mono ?_
    rintro e w' ⟨rfl, hB⟩
    replace HQ := (HQ.alloc _).on (hB.mono (by simp only [World.size_alloc]; omega))
    clear hB f0 f1 f2 f3 f4 f5 f6 f7
    obtain ⟨f0, f1, f2, f3, f4, f5, f6, f7⟩ := HQ.rd31
    go_wp2_with fail
    go_at_call 12
    refine (answers_any _).mono ?_
    rintro e w' ⟨rfl, hB⟩
    replace HQ := HQ.on hB
    clear hB f0 f1 f2 f3 f4 f5 f6 f7
    obtain ⟨f0, f1, f2, f3, f4, f5, f6, f7⟩ := HQ.rd31
    go_wp2_with fail
    go_at_call 13
    refine (good_three a b c _ _ _).mono ?_
    rintro e w' ⟨rfl, hB⟩
    replace HQ := (HQ.alloc _).on (hB.mono (by simp only [World.size_alloc]; omega))
    clear hB f0 f1 f2 f3 f4 f5 f6 f7
    go_upto_region 8 with (fail)
    clear HX HY
    go_cut [12] (fun s12 wx => ∃ g12, s12 = .pointer (some ⟨g12, 0, none⟩) ∧ Hold w [(g12, #[.int .i64 (hiOf (crs a b c)), .int .u64 (loOf (crs a b c))], 29), (g9, #[.int .i64 (hiOf (crs a b c)), .int .u64 (loOf (crs a b c))], 29)] wx)
    case first =>
      go_region_held3 (fun W => W.cell? ⟨w.heap.size, 0, none⟩ = some (.int .i64 a.1) ∧ W.cell? ⟨w.heap.size, 1, none⟩ = some (.int .i64 a.2) ∧ W.cell? ⟨g1, 0, none⟩ = some (.int .i64 b.1) ∧ W.cell? ⟨g1, 1, none⟩ = some (.int .i64 b.2) ∧ W.cell? ⟨g2, 0, none⟩ = some (.int .i64 c.1) ∧ W.cell? ⟨g2, 1, none⟩ = some (.int .i64 c.2)) (first | exact Hold.abc (by assumption) | exact Hold.abc5 (by assumption) | exact Hold.abc (Hold.drew (by assumption)) | exact Hold.abc5 (Hold.drew (by assumption)) | exact Hold.abc5 (Hold.new (by assumption) _ _) | exact Hold.abc5 (Hold.drew (Hold.new (by assumption) _ _)) | exact Hold.abc5 (Hold.set2 (by assumption) _ _) | exact Hold.abc5 (Hold.set2 (Hold.new (by assumption) _ _) _ _)) (first
        | (go_at_call 15; (with_reducible refine (HM1.out _).mono ?_); rintro e w' ⟨rfl, hB⟩; (first | (have HS' := Hold.on (by first | assumption | exact Hold.drew (by assumption)) hB) | (have HS' := Hold.on (Hold.new (by assumption) _ _) hB) | (have HS' := Hold.on (Hold.drew (Hold.new (by assumption) _ _)) hB)); (first | (have HF' := Hold.top5 HS'; obtain ⟨f1, f2, f3, f4⟩ := HF') | skip))
        | (go_at_call 15; (with_reducible refine (HM2.out _).mono ?_); rintro e w' ⟨rfl, hB⟩; (first | (have HS' := Hold.on (by first | assumption | exact Hold.drew (by assumption)) hB) | (have HS' := Hold.on (Hold.new (by assumption) _ _) hB) | (have HS' := Hold.on (Hold.drew (Hold.new (by assumption) _ _)) hB)); (first | (have HF' := Hold.top5 HS'; obtain ⟨f1, f2, f3, f4⟩ := HF') | skip))
        | (go_at_call 14; (with_reducible refine (HS.out _).mono ?_); rintro e w' ⟨rfl, hB⟩; (first | (have HS' := Hold.on (by first | assumption | exact Hold.drew (by assumption)) hB) | (have HS' := Hold.on (Hold.new (by assumption) _ _) hB) | (have HS' := Hold.on (Hold.drew (Hold.new (by assumption) _ _)) hB)); (first | (have HF' := Hold.top5 HS'; obtain ⟨f1, f2, f3, f4⟩ := HF') | skip)))
      all_goals
        (try go_wp2_with fail)
        go_meet
        first
          | exact ⟨_, rfl, Hold.two (Hold.new (by assumption) _ _)⟩
          | exact ⟨_, rfl, Hold.two (Hold.set2 (by assumption) _ _)⟩
    case rest =>
      obtain ⟨g12, rfl, HR⟩ := hcut
      clear HQ HM1 HM2 HS q1 q2 q3 q4
      obtain ⟨f0, f1, f2, f3⟩ := HR.rd2
      go_wp2_with fail
      go_at_call 16
      refine (HG.out _).mono ?_
      rintro e w' ⟨rfl, hB⟩
      have HB := Lib.hid (HR.on hB).1
      clear hB HR HG
      go_wp2
      go_ret
      exact ⟨rfl, HB.out⟩
end Go.Proofs.Ytmoppjkfdhfmoaa.geoTurns
