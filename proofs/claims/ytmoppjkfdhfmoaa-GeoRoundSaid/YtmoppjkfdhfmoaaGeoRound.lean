/- The law GeoRound: turning points round changes the sign alone; two stretches have the same in common, whichever is named first. -/
import Derived.Test.YtmoppjkfdhfmoaaGeoAns
namespace Go.Proofs.Ytmoppjkfdhfmoaa
section
variable {a b c d : Int × Int}
theorem gdL_r3 : gdL [b, c, a] = gdL [a, b, c] := by
  rw [Bool.eq_iff_iff, gdL_three, gdL_three]
  constructor
  · rintro ⟨h1, h2, h3⟩; exact ⟨h3, h1, h2⟩
  · rintro ⟨h1, h2, h3⟩; exact ⟨h2, h3, h1⟩
theorem gdL_s3 : gdL [b, a, c] = gdL [a, b, c] := by
  rw [Bool.eq_iff_iff, gdL_three, gdL_three]
  constructor
  · rintro ⟨h1, h2, h3⟩; exact ⟨h2, h1, h3⟩
  · rintro ⟨h1, h2, h3⟩; exact ⟨h2, h1, h3⟩
theorem gdL_r4 : gdL [d, c, a, b] = gdL [a, b, c, d] := by
  rw [Bool.eq_iff_iff, gdL_four, gdL_four]
  constructor
  · rintro ⟨h1, h2, h3, h4⟩; exact ⟨h3, h4, h2, h1⟩
  · rintro ⟨h1, h2, h3, h4⟩; exact ⟨h4, h3, h1, h2⟩
theorem gdL_s4 : gdL [b, a, c, d] = gdL [a, b, c, d] := by
  rw [Bool.eq_iff_iff, gdL_four, gdL_four]
  constructor
  · rintro ⟨h1, h2, h3, h4⟩; exact ⟨h2, h1, h3, h4⟩
  · rintro ⟨h1, h2, h3, h4⟩; exact ⟨h2, h1, h3, h4⟩
theorem te_round : te b c a = te a b c := by unfold te; rw [gdL_r3]
theorem te_swap : te b a c = te a b c := by unfold te; rw [gdL_s3]
theorem tv_round : tv b c a = tv a b c := by unfold tv; rw [gdL_r3, crs_round]
theorem tv_swap : tv b a c = -tv a b c := by
  unfold tv; rw [gdL_s3, crs_turn, sgn_neg]; split <;> rfl
theorem tv_bd (a b c : Int × Int) : -1 ≤ tv a b c ∧ tv a b c ≤ 1 := by
  unfold tv; have := sgn_bd (crs a b c); split <;> omega
theorem me_round : me d c a b = me a b c d := by unfold me; rw [gdL_r4]
theorem me_swap : me b a c d = me a b c d := by unfold me; rw [gdL_s4]
theorem mv_round : mv d c a b = mv a b c d := by unfold mv; rw [gdL_r4, meetN_eq, meetN_eq, meet_round]
theorem mv_swap : mv b a c d = mv a b c d := by unfold mv; rw [gdL_s4, meetN_eq, meetN_eq, meet_turn]
end
end Go.Proofs.Ytmoppjkfdhfmoaa
namespace Go.Proofs.Ytmoppjkfdhfmoaa.geoRound
open Go.RowKit
set_option maxRecDepth 100000 in
set_option maxHeartbeats 2000000 in
theorem law_walk (a b c d : Int × Int) (w : World) :
    Calls Try.prog 6 #[.agg #[.int .i64 a.1, .int .i64 a.2], .agg #[.int .i64 b.1, .int .i64 b.2], .agg #[.int .i64 c.1, .int .i64 c.2], .agg #[.int .i64 d.1, .int .i64 d.2]] w fun e w' => e = .returned (.bool true) ∧ Below w.heap.size w w' := by
  have H1 := Lib.hid (fun W => Turn_any a b c W)
  have h2 := fun W => Turn_any b c a W
  have h3 := fun W => Turn_any b a c W
  have H4 := Lib.hid (fun W => Meet_any a b c d W)
  have h5 := fun W => Meet_any d c a b W
  have h6 := fun W => Meet_any b a c d W
  rw [te_round, tv_round] at h2
  rw [te_swap, tv_swap] at h3
  rw [me_round, mv_round] at h5
  rw [me_swap, mv_swap] at h6
  have H2 := Lib.hid h2
  have H3 := Lib.hid h3
  have H5 := Lib.hid h5
  have H6 := Lib.hid h6
  have hb := tv_bd a b c
  have q := wrap_in (n := tv a b c) (by omega) (by omega)
  clear h2 h3 h5 h6 hb
  have HQ := Hold.four0 w a b c d
  go_enter Try.func6, Try.ntmps6
  go_upto_region 1 with (fail)
  generalize (World.alloc _ _) = W1 at HQ ⊢
  generalize w.heap.size + 1 + 1 + 1 = g3 at HQ ⊢
  generalize w.heap.size + 1 + 1 = g2 at HQ ⊢
  generalize w.heap.size + 1 = g1 at HQ ⊢
  obtain ⟨f0, f1, f2, f3, f4, f5, f6, f7⟩ := HQ.rd4
  go_wp2_with fail
  go_at_call 9
  refine (H1.out _).mono ?_
  rintro e w' ⟨rfl, hB⟩
  replace HQ := HQ.on hB
  clear hB f0 f1 f2 f3 f4 f5 f6 f7
  obtain ⟨f0, f1, f2, f3, f4, f5, f6, f7⟩ := HQ.rd4
  go_wp2_with fail
  go_at_call 9
  refine (H2.out _).mono ?_
  rintro e w' ⟨rfl, hB⟩
  replace HQ := HQ.on hB
  clear hB f0 f1 f2 f3 f4 f5 f6 f7
  obtain ⟨f0, f1, f2, f3, f4, f5, f6, f7⟩ := HQ.rd4
  go_wp2_with fail
  go_at_call 9
  refine (H3.out _).mono ?_
  rintro e w' ⟨rfl, hB⟩
  replace HQ := HQ.on hB
  clear hB f0 f1 f2 f3 f4 f5 f6 f7
  obtain ⟨f0, f1, f2, f3, f4, f5, f6, f7⟩ := HQ.rd4
  go_wp2_with fail
  go_at_call 21
  refine (H4.out _).mono ?_
  rintro e w' ⟨rfl, hB⟩
  replace HQ := HQ.on hB
  clear hB f0 f1 f2 f3 f4 f5 f6 f7
  obtain ⟨f0, f1, f2, f3, f4, f5, f6, f7⟩ := HQ.rd4
  go_wp2_with fail
  go_at_call 21
  refine (H5.out _).mono ?_
  rintro e w' ⟨rfl, hB⟩
  replace HQ := HQ.on hB
  clear hB f0 f1 f2 f3 f4 f5 f6 f7
  obtain ⟨f0, f1, f2, f3, f4, f5, f6, f7⟩ := HQ.rd4
  go_wp2_with fail
  go_at_call 21
  refine (H6.out _).mono ?_
  rintro e w' ⟨rfl, hB⟩
  replace HQ := HQ.on hB
  clear hB f0 f1 f2 f3 f4 f5 f6 f7
  obtain ⟨f0, f1, f2, f3, f4, f5, f6, f7⟩ := HQ.rd4
  go_wp2_with fail
  go_at_call 12
  refine (answers_any _).mono ?_
  rintro e w' ⟨rfl, hB⟩
  replace HQ := HQ.on hB
  clear hB f0 f1 f2 f3 f4 f5 f6 f7
  go_wp2
  go_ret
  exact ⟨rfl, HQ.1⟩
end Go.Proofs.Ytmoppjkfdhfmoaa.geoRound
