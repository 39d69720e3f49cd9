/- The law GridAt: the cell of a point. -/
import Derived.Test.YtfihddpidaidiaaGridA
namespace Go.Proofs.Ytfihddpidaidiaa.gridAt
open Go.RowKit

set_option maxRecDepth 100000 in
set_option maxHeartbeats 4000000 in
theorem walk_bad (p : Int × Int) (hp : gd p = false) (w : World) :
    Calls Try.prog 3 #[.agg #[.int .i64 p.1, .int .i64 p.2]] w fun e w' => e = .returned (.bool true) ∧ Below w.heap.size w w' := by
  have hat := fun W => At_any p W
  rw [(at_bad hp).1, (at_bad hp).2] at hat
  have hgo := fun W t => ref_good_one p 1 W t
  rw [show gdL [p] = false by simp [gdL, hp]] at hgo
  have HAT := Lib.hid hat
  have HGO := Lib.hid hgo
  clear hat hgo hp
  have HQ := (Hold.refl w).new #[.int .i64 p.1, .int .i64 p.2] 23
  go_enter Try.func3, Try.ntmps3
  go_upto_region 1 with (fail)
  generalize (World.alloc _ _) = W1 at HQ ⊢
  obtain ⟨g0, hg0⟩ : ∃ g, w.heap.size = g := ⟨_, rfl⟩
  rw [hg0] at HQ ⊢
  have HG0 := Lib.hid hg0
  clear hg0
  obtain ⟨c0, c1⟩ := HQ.pt (.head _)
  go_upto_region 2 with (go_at_call 9; go_must ((with_reducible refine (HAT.out _).mono ?_); rintro e w' ⟨rfl, hB⟩; have HQ1 := (HQ.on hB).new #[.int .i64 0, .int .i64 0] 24; clear hB c0 c1 HQ))
  generalize (World.alloc _ _) = W2 at HQ1 ⊢
  generalize (World.heap _).size = g3 at HQ1 ⊢
  obtain ⟨c0, c1, c2, c3⟩ := HQ1.rd2
  go_wp2_with fail
  go_at_call 10
  refine (HGO.out _ _).mono ?_
  rintro e w' ⟨rfl, hB⟩
  have HQ2 := (HQ1.alloc _).on (hB.mono (by simp only [World.size_alloc]; omega))
  clear hB c0 c1 c2 c3 HQ1
  go_wp2_with fail
  go_at_call 11
  refine (grid_answers _).mono ?_
  rintro e w' ⟨rfl, hB⟩
  have HQ3 := HQ2.on hB
  clear hB HQ2
  obtain ⟨c0, c1, c2, c3⟩ := HQ3.rd2
  have HB := Lib.hid HQ3.1
  clear HQ3
  go_wp2
  go_ret
  exact ⟨rfl, HG0.out ▸ HB.out⟩
set_option maxRecDepth 100000 in
set_option maxHeartbeats 4000000 in
theorem walk_good (p : Int × Int) (hp : gd p = true) (w : World) :
    Calls Try.prog 3 #[.agg #[.int .i64 p.1, .int .i64 p.2]] w fun e w' => e = .returned (.bool true) ∧ Below w.heap.size w w' := by
  have hat := fun W => At_any p W
  rw [(at_good hp).1, (at_good hp).2] at hat
  have hgo := fun W t => ref_good_one p 1 W t
  rw [show gdL [p] = true by simp [gdL, hp]] at hgo
  have HAT := Lib.hid hat
  have HGO := Lib.hid hgo
  have HRA := Lib.hid (fun W => ref_At p hp W)
  clear hat hgo hp
  have HQ := (Hold.refl w).new #[.int .i64 p.1, .int .i64 p.2] 23
  go_enter Try.func3, Try.ntmps3
  go_upto_region 1 with (fail)
  generalize (World.alloc _ _) = W1 at HQ ⊢
  obtain ⟨g0, hg0⟩ : ∃ g, w.heap.size = g := ⟨_, rfl⟩
  rw [hg0] at HQ ⊢
  have HG0 := Lib.hid hg0
  clear hg0
  obtain ⟨c0, c1⟩ := HQ.pt (.head _)
  generalize cdP p = c at *
  go_upto_region 2 with (go_at_call 9; go_must ((with_reducible refine (HAT.out _).mono ?_); rintro e w' ⟨rfl, hB⟩; have HQ1 := (HQ.on hB).new #[.int .i64 c.1, .int .i64 c.2] 24; clear hB c0 c1 HQ))
  generalize (World.alloc _ _) = W2 at HQ1 ⊢
  generalize (World.heap _).size = g3 at HQ1 ⊢
  obtain ⟨c0, c1, c2, c3⟩ := HQ1.rd2
  go_upto_region 4 with (go_at_call 10; go_must ((with_reducible refine (HGO.out _ _).mono ?_); rintro e w' ⟨rfl, hB⟩; have HQ2 := (HQ1.alloc _).on (hB.mono (by simp only [World.size_alloc]; omega)); clear hB c0 c1 c2 c3 HQ1))
  go_region_held3 (fun W => W.cell? ⟨g0, 0, none⟩ = some (.int .i64 p.1) ∧ W.cell? ⟨g0, 1, none⟩ = some (.int .i64 p.2) ∧ W.cell? ⟨g3, 0, none⟩ = some (.int .i64 c.1) ∧ W.cell? ⟨g3, 1, none⟩ = some (.int .i64 c.2)) (first | exact Hold.rd2 (by assumption) | exact Hold.rd2 (Hold.drew (by assumption))) ((first
    | (go_at_call 11; (with_reducible refine (grid_answers _).mono ?_); rintro e w' ⟨rfl, hB⟩; have HS' := Hold.on (by first | assumption | exact Hold.drew (by assumption)) hB)
    | (go_at_call 12; (with_reducible refine (HRA.out _).mono ?_); rintro e w' ⟨rfl, hB⟩; have HS' := Hold.on (by first | assumption | exact Hold.drew (by assumption)) hB)))
  have HB := Lib.hid HS'.1
  clear HS' HQ2
  go_wp2_with fail
  go_ret
  exact ⟨rfl, HG0.out ▸ HB.out⟩
theorem law_walk (p : Int × Int) (w : World) :
    Calls Try.prog 3 #[.agg #[.int .i64 p.1, .int .i64 p.2]] w fun e w' => e = .returned (.bool true) ∧ Below w.heap.size w w' := by
  cases hp : gd p
  · exact walk_bad p hp w
  · exact walk_good p hp w
end Go.Proofs.Ytfihddpidaidiaa.gridAt
