/- The law GeoMeets: what two stretches have in common. -/
import Derived.Test.YtmoppjkfdhfmoaaGeoAns
import Derived.Test.YtmoppjkfdhfmoaaRefMeet
namespace Go.Proofs.Ytmoppjkfdhfmoaa.geoMeets
open Go.RowKit
set_option maxRecDepth 100000 in
set_option maxHeartbeats 2000000 in
theorem law_walk (a b c d : Int × Int) (w : World) :
    Calls Try.prog 5 #[.agg #[.int .i64 a.1, .int .i64 a.2], .agg #[.int .i64 b.1, .int .i64 b.2], .agg #[.int .i64 c.1, .int .i64 c.2], .agg #[.int .i64 d.1, .int .i64 d.2]] w fun e w' => e = .returned (.bool true) ∧ Below w.heap.size w w' := by
  cases hg : gdL [a, b, c, d]
  · have HX := Lib.hid (fun W => meet_bad a b c d hg W)
    have HQ := Hold.four0 w a b c d
    go_enter Try.func5, Try.ntmps5
    go_upto_region 1 with (fail)
    generalize (World.alloc _ _) = W1 at HQ ⊢
    generalize w.heap.size + 1 + 1 + 1 = g3 at HQ ⊢
    generalize w.heap.size + 1 + 1 = g2 at HQ ⊢
    generalize w.heap.size + 1 = g1 at HQ ⊢
    obtain ⟨f0, f1, f2, f3, f4, f5, f6, f7⟩ := HQ.rd4
    go_wp2_with fail
    go_at_call 21
    refine (HX.out _).mono ?_
    rintro e w' ⟨rfl, hB⟩
    replace HQ := HQ.on hB
    clear hB f0 f1 f2 f3 f4 f5 f6 f7
    obtain ⟨f0, f1, f2, f3, f4, f5, f6, f7⟩ := HQ.rd4
    go_wp2_with fail
    go_at_call 12
    refine (answers_any _).mono ?_
    rintro e w' ⟨rfl, hB⟩
    replace HQ := HQ.on hB
    clear hB f0 f1 f2 f3 f4 f5 f6 f7
    obtain ⟨f0, f1, f2, f3, f4, f5, f6, f7⟩ := HQ.rd4
    go_wp2_with fail
    go_at_call 11
    refine (ref_good_four a b c d _ _ _).mono ?_
    rintro e w' ⟨rfl, hB⟩
    replace HQ := (HQ.alloc _).on (hB.mono (by simp only [World.size_alloc]; omega))
    clear hB f0 f1 f2 f3 f4 f5 f6 f7
    go_wp2
    go_ret
    exact ⟨rfl, HQ.1⟩
  · have HX := Lib.hid (fun W => meet_good a b c d hg W)
    have hy := fun W => ref_meet a b c d (gdL_four.1 hg).1 (gdL_four.1 hg).2.1 (gdL_four.1 hg).2.2.1 (gdL_four.1 hg).2.2.2 W
    have HY := Lib.hid hy
    clear hy
    have HQ := Hold.four0 w a b c d
    go_enter Try.func5, Try.ntmps5
    go_upto_region 1 with (fail)
    generalize (World.alloc _ _) = W1 at HQ ⊢
    generalize w.heap.size + 1 + 1 + 1 = g3 at HQ ⊢
    generalize w.heap.size + 1 + 1 = g2 at HQ ⊢
    generalize w.heap.size + 1 = g1 at HQ ⊢
    obtain ⟨f0, f1, f2, f3, f4, f5, f6, f7⟩ := HQ.rd4
    go_wp2_with fail
    go_at_call 21
    refine (HX.out _).mono ?_
    rintro e w' ⟨rfl, hB⟩
    replace HQ := HQ.on hB
    clear hB f0 f1 f2 f3 f4 f5 f6 f7
    obtain ⟨f0, f1, f2, f3, f4, f5, f6, f7⟩ := HQ.rd4
    go_wp2_with fail
    go_at_call 12
    refine (answers_any _).mono ?_
    rintro e w' ⟨rfl, hB⟩
    replace HQ := HQ.on hB
    clear hB f0 f1 f2 f3 f4 f5 f6 f7
    obtain ⟨f0, f1, f2, f3, f4, f5, f6, f7⟩ := HQ.rd4
    go_wp2_with fail
    go_at_call 11
    refine (ref_good_four a b c d _ _ _).mono ?_
    rintro e w' ⟨rfl, hB⟩
    replace HQ := (HQ.alloc _).on (hB.mono (by simp only [World.size_alloc]; omega))
    clear hB f0 f1 f2 f3 f4 f5 f6 f7
    obtain ⟨f0, f1, f2, f3, f4, f5, f6, f7⟩ := HQ.rd4
    go_wp2_with fail
    go_at_call 22
    refine (HY.out _).mono ?_
    rintro e w' ⟨rfl, hB⟩
    replace HQ := HQ.on hB
    clear hB f0 f1 f2 f3 f4 f5 f6 f7
    go_wp2
    go_ret
    exact ⟨rfl, HQ.1⟩
end Go.Proofs.Ytmoppjkfdhfmoaa.geoMeets
