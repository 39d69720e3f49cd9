/- The law GeoOn: which points are on a stretch, and how long it is, squared. -/
import Derived.Test.YtmoppjkfdhfmoaaRefSq
namespace Go.Proofs.Ytmoppjkfdhfmoaa.geoOn
open Go.RowKit
set_option maxRecDepth 100000 in
set_option maxHeartbeats 2000000 in
theorem law_walk (a b p : Int × Int) (w : World) :
    Calls Try.prog 4 #[.agg #[.int .i64 a.1, .int .i64 a.2], .agg #[.int .i64 b.1, .int .i64 b.2], .agg #[.int .i64 p.1, .int .i64 p.2]] w fun e w' => e = .returned (.bool true) ∧ Below w.heap.size w w' := by
  cases h2 : gdL [a, b]
  · have h3 : gdL [a, b, p] = false := by rw [gdL_split, h2]; rfl
    have HX := Lib.hid (fun W => On_bad a b p h3 W)
    have HY := Lib.hid (fun W => Square_bad a b h2 W)
    clear h3
    have HQ := Hold.three0 w a b p
    go_enter Try.func4, Try.ntmps4
    go_upto_region 1 with (fail)
    generalize (World.alloc _ _) = W1 at HQ ⊢
    generalize w.heap.size + 1 + 1 = g2 at HQ ⊢
    generalize w.heap.size + 1 = g1 at HQ ⊢
    obtain ⟨f0, f1, f2, f3, f4, f5⟩ := HQ.rd3
    go_wp2_with fail
    go_at_call 17
    refine (HX.out _).mono ?_
    rintro e w' ⟨rfl, hB⟩
    replace HQ := HQ.on hB
    clear hB f0 f1 f2 f3 f4 f5
    obtain ⟨f0, f1, f2, f3, f4, f5⟩ := HQ.rd3
    go_wp2_with fail
    go_at_call 18
    refine (HY.out _).mono ?_
    rintro e w' ⟨rfl, hB⟩
    replace HQ := HQ.on hB
    clear hB f0 f1 f2 f3 f4 f5
    replace HQ := HQ.new #[.int .i64 0, .int .u64 0] 29
    go_upto_region 3 with (fail)
    generalize (World.alloc w' _) = W9 at HQ ⊢
    generalize w'.heap.size = g9 at HQ ⊢
    clear w'
    obtain ⟨f0, f1, f2, f3, f4, f5, f6, f7⟩ := HQ.rd31
    go_wp2_with fail
    go_at_call 12
    refine (answers_any _).mono ?_
    rintro e w' ⟨rfl, hB⟩
    replace HQ := HQ.on hB
    clear hB f0 f1 f2 f3 f4 f5 f6 f7
    obtain ⟨f0, f1, f2, f3, f4, f5, f6, f7⟩ := HQ.rd31
    go_wp2_with fail
    go_at_call 11
    refine (ref_good_two a b _ _ _).mono ?_
    rintro e w' ⟨rfl, hB⟩
    replace HQ := (HQ.alloc _).on (hB.mono (by simp only [World.size_alloc]; omega))
    clear hB f0 f1 f2 f3 f4 f5 f6 f7
    obtain ⟨f0, f1, f2, f3, f4, f5, f6, f7⟩ := HQ.rd31
    have HB := Lib.hid HQ.1
    clear HQ
    go_wp2
    go_ret
    exact ⟨rfl, HB.out⟩
  · have HY := Lib.hid (fun W => Square_good a b h2 W)
    cases h1 : gdL [p]
    · have h3 : gdL [a, b, p] = false := by rw [gdL_split, h2, h1]; rfl
      have HX := Lib.hid (fun W => On_bad a b p h3 W)
      clear h3
      have HQ := Hold.three0 w a b p
      go_enter Try.func4, Try.ntmps4
      go_upto_region 1 with (fail)
      generalize (World.alloc _ _) = W1 at HQ ⊢
      generalize w.heap.size + 1 + 1 = g2 at HQ ⊢
      generalize w.heap.size + 1 = g1 at HQ ⊢
      obtain ⟨f0, f1, f2, f3, f4, f5⟩ := HQ.rd3
      go_wp2_with fail
      go_at_call 17
      refine (HX.out _).mono ?_
      rintro e w' ⟨rfl, hB⟩
      replace HQ := HQ.on hB
      clear hB f0 f1 f2 f3 f4 f5
      obtain ⟨f0, f1, f2, f3, f4, f5⟩ := HQ.rd3
      go_wp2_with fail
      go_at_call 18
      refine (HY.out _).mono ?_
      rintro e w' ⟨rfl, hB⟩
      replace HQ := HQ.on hB
      clear hB f0 f1 f2 f3 f4 f5
      replace HQ := HQ.new #[.int .i64 (hiOf (sqr a b)), .int .u64 (loOf (sqr a b))] 29
      go_upto_region 3 with (fail)
      generalize (World.alloc w' _) = W9 at HQ ⊢
      generalize w'.heap.size = g9 at HQ ⊢
      clear w'
      obtain ⟨f0, f1, f2, f3, f4, f5, f6, f7⟩ := HQ.rd31
      go_wp2_with fail
      go_at_call 12
      refine (answers_any _).mono ?_
      rintro e w' ⟨rfl, hB⟩
      replace HQ := HQ.on hB
      clear hB f0 f1 f2 f3 f4 f5 f6 f7
      obtain ⟨f0, f1, f2, f3, f4, f5, f6, f7⟩ := HQ.rd31
      go_wp2_with fail
      go_at_call 11
      refine (ref_good_two a b _ _ _).mono ?_
      rintro e w' ⟨rfl, hB⟩
      replace HQ := (HQ.alloc _).on (hB.mono (by simp only [World.size_alloc]; omega))
      clear hB f0 f1 f2 f3 f4 f5 f6 f7
      obtain ⟨f0, f1, f2, f3, f4, f5, f6, f7⟩ := HQ.rd31
      go_wp2_with fail
      go_at_call 11
      refine (ref_good_one p _ _ _).mono ?_
      rintro e w' ⟨rfl, hB⟩
      replace HQ := (HQ.alloc _).on (hB.mono (by simp only [World.size_alloc]; omega))
      clear hB f0 f1 f2 f3 f4 f5 f6 f7
      obtain ⟨f0, f1, f2, f3, f4, f5, f6, f7⟩ := HQ.rd31
      have HB := Lib.hid HQ.1
      clear HQ
      go_wp2
      go_ret
      exact ⟨rfl, HB.out⟩
    · have h3 : gdL [a, b, p] = true := by rw [gdL_split, h2, h1]; rfl
      have HX := Lib.hid (fun W => On_good a b p h3 W)
      obtain ⟨ga, gb, gp⟩ := gdL_three.1 h3
      have hu := fun W => ref_on a b p ga gb gp W
      have hv := fun W => ref_square a b ga gb W
      have HU := Lib.hid hu
      have HV := Lib.hid hv
      clear h3 hu hv ga gb gp
      have HQ := Hold.three0 w a b p
      go_enter Try.func4, Try.ntmps4
      go_upto_region 1 with (fail)
      generalize (World.alloc _ _) = W1 at HQ ⊢
      generalize w.heap.size + 1 + 1 = g2 at HQ ⊢
      generalize w.heap.size + 1 = g1 at HQ ⊢
      obtain ⟨f0, f1, f2, f3, f4, f5⟩ := HQ.rd3
      go_wp2_with fail
      go_at_call 17
      refine (HX.out _).mono ?_
      rintro e w' ⟨rfl, hB⟩
      replace HQ := HQ.on hB
      clear hB f0 f1 f2 f3 f4 f5
      obtain ⟨f0, f1, f2, f3, f4, f5⟩ := HQ.rd3
      go_wp2_with fail
      go_at_call 18
      refine (HY.out _).mono ?_
      rintro e w' ⟨rfl, hB⟩
      replace HQ := HQ.on hB
      clear hB f0 f1 f2 f3 f4 f5
      replace HQ := HQ.new #[.int .i64 (hiOf (sqr a b)), .int .u64 (loOf (sqr a b))] 29
      go_upto_region 3 with (fail)
      generalize (World.alloc w' _) = W9 at HQ ⊢
      generalize w'.heap.size = g9 at HQ ⊢
      clear w'
      obtain ⟨f0, f1, f2, f3, f4, f5, f6, f7⟩ := HQ.rd31
      go_wp2_with fail
      go_at_call 12
      refine (answers_any _).mono ?_
      rintro e w' ⟨rfl, hB⟩
      replace HQ := HQ.on hB
      clear hB f0 f1 f2 f3 f4 f5 f6 f7
      obtain ⟨f0, f1, f2, f3, f4, f5, f6, f7⟩ := HQ.rd31
      go_wp2_with fail
      go_at_call 11
      refine (ref_good_two a b _ _ _).mono ?_
      rintro e w' ⟨rfl, hB⟩
      replace HQ := (HQ.alloc _).on (hB.mono (by simp only [World.size_alloc]; omega))
      clear hB f0 f1 f2 f3 f4 f5 f6 f7
      obtain ⟨f0, f1, f2, f3, f4, f5, f6, f7⟩ := HQ.rd31
      go_wp2_with fail
      go_at_call 11
      refine (ref_good_one p _ _ _).mono ?_
      rintro e w' ⟨rfl, hB⟩
      replace HQ := (HQ.alloc _).on (hB.mono (by simp only [World.size_alloc]; omega))
      clear hB f0 f1 f2 f3 f4 f5 f6 f7
      go_upto_region 9 with (fail)
      clear HX HY
      go_region_held3 (fun W => W.cell? ⟨w.heap.size, 0, none⟩ = some (.int .i64 a.1) ∧ W.cell? ⟨w.heap.size, 1, none⟩ = some (.int .i64 a.2) ∧ W.cell? ⟨g1, 0, none⟩ = some (.int .i64 b.1) ∧ W.cell? ⟨g1, 1, none⟩ = some (.int .i64 b.2) ∧ W.cell? ⟨g2, 0, none⟩ = some (.int .i64 p.1) ∧ W.cell? ⟨g2, 1, none⟩ = some (.int .i64 p.2) ∧ W.cell? ⟨g9, 0, none⟩ = some (.int .i64 (hiOf (sqr a b))) ∧ W.cell? ⟨g9, 1, none⟩ = some (.int .u64 (loOf (sqr a b)))) (first | exact Hold.rd31 (by assumption) | exact Hold.rd31 (Hold.drew (by assumption))) (first
        | (go_at_call 19; (with_reducible refine (HU.out _).mono ?_); rintro e w' ⟨rfl, hB⟩; have HS' := Hold.on (by first | assumption | exact Hold.drew (by assumption)) hB)
        | (go_at_call 20; (with_reducible refine (HV.out _).mono ?_); rintro e w' ⟨rfl, hB⟩; have HS' := Hold.on (by first | assumption | exact Hold.drew (by assumption)) hB))
      go_wp2
      go_ret
      exact ⟨rfl, HS'.1⟩
end Go.Proofs.Ytmoppjkfdhfmoaa.geoOn
