/- The law GridSpans: the cells of a window. -/
import Derived.Test.YtfihddpidaidiaaGridR
import Derived.Test.YtfihddpidaidiaaGridS
namespace Go.Proofs.Ytfihddpidaidiaa.gridSpans
open Go.RowKit

set_option maxRecDepth 100000 in
set_option maxHeartbeats 4000000 in
theorem walk_bad (L H : Int × Int) (he : wnE L H ≠ 0) (w : World) :
    Calls Try.prog 4 #[.agg #[.int .i64 L.1, .int .i64 L.2, .int .i64 H.1, .int .i64 H.2]] w fun e w' => e = .returned (.bool true) ∧ Below w.heap.size w w' := by
  have HSP := Lib.hid (fun W => span_bad L H he W)
  have HOK := Lib.hid (fun W => ref_windowOK L H W)
  have e0 : (wnE L H == 0) = false := by simpa using he
  clear he
  generalize wnE L H = x at *
  have HQ := (Hold.refl w).new #[.int .i64 L.1, .int .i64 L.2, .int .i64 H.1, .int .i64 H.2] 34
  go_enter Try.func4, Try.ntmps4
  go_upto_region 1 with (fail)
  generalize (World.alloc _ _) = W1 at HQ ⊢
  obtain ⟨g0, hg0⟩ : ∃ g, w.heap.size = g := ⟨_, rfl⟩
  rw [hg0] at HQ ⊢
  have HG0 := Lib.hid hg0
  clear hg0
  obtain ⟨c0, c1, c2, c3⟩ := HQ.win (.head _)
  go_wp2_with fail
  go_at_call 13
  refine (HSP.out _).mono ?_
  rintro e w' ⟨rfl, hB⟩
  have HQ1 := HQ.on hB
  clear HQ hB c0 c1 c2 c3
  obtain ⟨c0, c1, c2, c3⟩ := HQ1.win (.head _)
  go_wp2_with fail
  go_at_call 14
  refine (HOK.out _).mono ?_
  rintro e w' ⟨rfl, hB⟩
  have HQ2 := HQ1.on hB
  clear HQ1 hB c0 c1 c2 c3
  go_wp2_with fail
  go_at_call 11
  refine (grid_answers _).mono ?_
  rintro e w' ⟨rfl, hB⟩
  have HB := Lib.hid (HQ2.on hB).1
  clear HQ2 hB
  go_wp2
  go_ret
  exact ⟨rfl, HG0.out ▸ HB.out⟩
set_option maxRecDepth 100000 in
set_option maxHeartbeats 4000000 in
theorem walk_good (L H : Int × Int) (he : wnE L H = 0) (w : World) :
    Calls Try.prog 4 #[.agg #[.int .i64 L.1, .int .i64 L.2, .int .i64 H.1, .int .i64 H.2]] w fun e w' => e = .returned (.bool true) ∧ Below w.heap.size w w' := by
  have HSP := Lib.hid (fun W => span_good L H he W)
  have HRS := Lib.hid (fun W => ref_span L H he W)
  have hok := fun W => ref_windowOK L H W
  rw [he] at hok
  have HOK := Lib.hid hok
  have HLN : Hid ((spL L H).length ≤ 1000) := by
    have hg := (wnE_zero.1 he).1
    have := spL_len_le (gd_iff.1 (two_good hg).1) (gd_iff.1 (two_good hg).2)
    unfold Hid
    omega
  clear he hok
  generalize spL L H = l at *
  have HQ := (Hold.refl w).new #[.int .i64 L.1, .int .i64 L.2, .int .i64 H.1, .int .i64 H.2] 34
  go_enter Try.func4, Try.ntmps4
  go_upto_region 1 with (fail)
  generalize (World.alloc _ _) = W1 at HQ ⊢
  obtain ⟨g0, hg0⟩ : ∃ g, w.heap.size = g := ⟨_, rfl⟩
  rw [hg0] at HQ ⊢
  have HG0 := Lib.hid hg0
  clear hg0
  obtain ⟨c0, c1, c2, c3⟩ := HQ.win (.head _)
  go_wp2_with fail
  go_at_call 13
  refine (HSP.out _).mono ?_
  rintro e w' ⟨v, rfl, HR⟩
  have HQ1 := HQ.on HR.1
  obtain ⟨A, ca, rfl, hi, -⟩ := HR.items
  have HI1 := Lib.hid hi
  clear HQ HR hi c0 c1 c2 c3
  obtain ⟨c0, c1, c2, c3⟩ := HQ1.win (.head _)
  go_wp2_with fail
  go_at_call 14
  refine (HOK.out _).mono ?_
  rintro e w' ⟨rfl, hB⟩
  have HQ2 := HQ1.on hB
  have HI2 := Lib.hid (HI1.out.on hB)
  clear HQ1 hB c0 c1 c2 c3
  go_wp2_with fail
  go_at_call 11
  refine (grid_answers _).mono ?_
  rintro e w' ⟨rfl, hB⟩
  have HQ3 := HQ2.on hB
  have HI3 := Lib.hid (HI2.out.on hB)
  clear HQ2 hB
  obtain ⟨c0, c1, c2, c3⟩ := HQ3.win (.head _)
  go_wp2_with fail
  go_at_call 16
  refine (HRS.out _).mono ?_
  rintro e w' ⟨v, rfl, HR⟩
  have HQ4 := HQ3.on HR.1
  have HI4 := Lib.hid (HI3.out.on HR.1)
  obtain ⟨B, cb, rfl, hi, -⟩ := HR.items
  have HJ4 := Lib.hid hi
  clear HQ3 HR hi c0 c1 c2 c3
  go_wp2_with fail
  go_at_call 15
  refine (same_any l A B ca cb HLN.out _ HI4.out HJ4.out).mono ?_
  rintro e w' ⟨rfl, hB⟩
  have HB := Lib.hid (HQ4.on hB).1
  clear HQ4 hB
  go_wp2
  go_ret
  exact ⟨rfl, HG0.out ▸ HB.out⟩
theorem law_walk (L H : Int × Int) (w : World) :
    Calls Try.prog 4 #[.agg #[.int .i64 L.1, .int .i64 L.2, .int .i64 H.1, .int .i64 H.2]] w fun e w' => e = .returned (.bool true) ∧ Below w.heap.size w w' := by
  by_cases he : wnE L H = 0
  · exact walk_good L H he w
  · exact walk_bad L H he w
end Go.Proofs.Ytfihddpidaidiaa.gridSpans
