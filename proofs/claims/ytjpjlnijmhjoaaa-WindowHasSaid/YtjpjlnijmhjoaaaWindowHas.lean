/- The law WindowHas: which windows are sound, and which points they have. -/
import Derived.Test.YtjpjlnijmhjoaaaWinAns
namespace Go.Proofs.Ytjpjlnijmhjoaaa.windowHas
open Go.RowKit

theorem haV_bad {L H p : Int × Int} (h : frE L H [p] ≠ 0) : haV L H p = false := by unfold haV; rw [if_neg h]
theorem haV_good {L H p : Int × Int} (h : frE L H [p] = 0) : haV L H p = hasB L H p := by unfold haV; rw [if_pos h]
set_option maxRecDepth 100000 in
set_option maxHeartbeats 4000000 in
theorem walk_bad (L H p : Int × Int) (he : wnE L H ≠ 0) (w : World) :
    Calls Try.prog 3 #[.agg #[.int .i64 L.1, .int .i64 L.2, .int .i64 H.1, .int .i64 H.2], .agg #[.int .i64 p.1, .int .i64 p.2]] w fun e w' => e = .returned (.bool true) ∧ Below w.heap.size w w' := by
  have HOK := Lib.hid (fun W => ref_windowOK L H W)
  have HHA := Lib.hid (fun W => Has_any L H p W)
  have HCK := Lib.hid (fun W => wcheck_any L H W)
  have HRH := Lib.hid (fun W => ref_has L H p W)
  have HGO := Lib.hid (fun W t => ref_good_one p 1 W t)
  have e1 := frE_bad (ps := [p]) he
  rw [haV_bad (by rw [e1]; exact he), e1] at HHA
  have e0 : (wnE L H == 0) = false := by simpa using he
  clear he e1
  generalize wnE L H = x at *
  have HQ := ((Hold.refl w).new #[.int .i64 L.1, .int .i64 L.2, .int .i64 H.1, .int .i64 H.2] 25).new' #[.int .i64 p.1, .int .i64 p.2] 23 (n := w.heap.size + 1) (by simp)
  go_enter Try.func3, Try.ntmps3
  go_upto_region 1 with (fail)
  generalize (World.alloc _ _) = W1 at HQ ⊢
  generalize w.heap.size + 1 = g1 at HQ ⊢
  obtain ⟨g0, hg0⟩ : ∃ g, w.heap.size = g := ⟨_, rfl⟩
  rw [hg0] at HQ ⊢
  have HG0 := Lib.hid hg0
  clear hg0
  obtain ⟨⟨c0, c1, c2, c3⟩, d0, d1⟩ := HQ.wp
  go_wp2_with (first
    | (go_at_call 9; go_must ((with_reducible refine (HOK.out _).mono ?_); rintro e w' ⟨rfl, hB⟩; replace HQ := HQ.on hB; clear hB c0 c1 c2 c3 d0 d1; obtain ⟨⟨c0, c1, c2, c3⟩, d0, d1⟩ := HQ.wp))
    | (go_at_call 10; go_must ((with_reducible refine (HHA.out _).mono ?_); rintro e w' ⟨rfl, hB⟩; replace HQ := HQ.on hB; clear hB c0 c1 c2 c3 d0 d1; obtain ⟨⟨c0, c1, c2, c3⟩, d0, d1⟩ := HQ.wp))
    | (go_at_call 11; go_must ((with_reducible refine (win_answers _).mono ?_); rintro e w' ⟨rfl, hB⟩; replace HQ := HQ.on hB; clear hB c0 c1 c2 c3 d0 d1; obtain ⟨⟨c0, c1, c2, c3⟩, d0, d1⟩ := HQ.wp))
    | (go_at_call 12; go_must ((with_reducible refine (HCK.out _).mono ?_); rintro e w' ⟨rfl, hB⟩; replace HQ := HQ.on hB; clear hB c0 c1 c2 c3 d0 d1; obtain ⟨⟨c0, c1, c2, c3⟩, d0, d1⟩ := HQ.wp))
    | (go_at_call 13; go_must ((with_reducible refine (HGO.out _ _).mono ?_); rintro e w' ⟨rfl, hB⟩; replace HQ := (HQ.alloc _).on (hB.mono (by simp only [World.size_alloc]; omega)); clear hB c0 c1 c2 c3 d0 d1; obtain ⟨⟨c0, c1, c2, c3⟩, d0, d1⟩ := HQ.wp))
    | (go_at_call 14; go_must ((with_reducible refine (HRH.out _).mono ?_); rintro e w' ⟨rfl, hB⟩; replace HQ := HQ.on hB; clear hB c0 c1 c2 c3 d0 d1; obtain ⟨⟨c0, c1, c2, c3⟩, d0, d1⟩ := HQ.wp)))
  have HB := Lib.hid HQ.1
  clear HQ c0 c1 c2 c3 d0 d1
  go_ret
  exact ⟨rfl, HB.out⟩
set_option maxRecDepth 100000 in
set_option maxHeartbeats 4000000 in
theorem walk_far (L H p : Int × Int) (he : wnE L H = 0) (hg : gdL [p] = false) (w : World) :
    Calls Try.prog 3 #[.agg #[.int .i64 L.1, .int .i64 L.2, .int .i64 H.1, .int .i64 H.2], .agg #[.int .i64 p.1, .int .i64 p.2]] w fun e w' => e = .returned (.bool true) ∧ Below w.heap.size w w' := by
  have HOK := Lib.hid (fun W => ref_windowOK L H W)
  have HHA := Lib.hid (fun W => Has_any L H p W)
  have HCK := Lib.hid (fun W => wcheck_any L H W)
  have HRH := Lib.hid (fun W => ref_has L H p W)
  have HGO := Lib.hid (fun W t => ref_good_one p 1 W t)
  have e1 := frE_far he hg
  rw [haV_bad (by rw [e1]; decide), e1] at HHA
  rw [he] at HOK HCK
  rw [hg] at HGO
  clear he e1 hg
  have HQ := ((Hold.refl w).new #[.int .i64 L.1, .int .i64 L.2, .int .i64 H.1, .int .i64 H.2] 25).new' #[.int .i64 p.1, .int .i64 p.2] 23 (n := w.heap.size + 1) (by simp)
  go_enter Try.func3, Try.ntmps3
  go_upto_region 1 with (fail)
  generalize (World.alloc _ _) = W1 at HQ ⊢
  generalize w.heap.size + 1 = g1 at HQ ⊢
  obtain ⟨g0, hg0⟩ : ∃ g, w.heap.size = g := ⟨_, rfl⟩
  rw [hg0] at HQ ⊢
  have HG0 := Lib.hid hg0
  clear hg0
  obtain ⟨⟨c0, c1, c2, c3⟩, d0, d1⟩ := HQ.wp
  go_wp2_with (first
    | (go_at_call 9; go_must ((with_reducible refine (HOK.out _).mono ?_); rintro e w' ⟨rfl, hB⟩; replace HQ := HQ.on hB; clear hB c0 c1 c2 c3 d0 d1; obtain ⟨⟨c0, c1, c2, c3⟩, d0, d1⟩ := HQ.wp))
    | (go_at_call 10; go_must ((with_reducible refine (HHA.out _).mono ?_); rintro e w' ⟨rfl, hB⟩; replace HQ := HQ.on hB; clear hB c0 c1 c2 c3 d0 d1; obtain ⟨⟨c0, c1, c2, c3⟩, d0, d1⟩ := HQ.wp))
    | (go_at_call 11; go_must ((with_reducible refine (win_answers _).mono ?_); rintro e w' ⟨rfl, hB⟩; replace HQ := HQ.on hB; clear hB c0 c1 c2 c3 d0 d1; obtain ⟨⟨c0, c1, c2, c3⟩, d0, d1⟩ := HQ.wp))
    | (go_at_call 12; go_must ((with_reducible refine (HCK.out _).mono ?_); rintro e w' ⟨rfl, hB⟩; replace HQ := HQ.on hB; clear hB c0 c1 c2 c3 d0 d1; obtain ⟨⟨c0, c1, c2, c3⟩, d0, d1⟩ := HQ.wp))
    | (go_at_call 13; go_must ((with_reducible refine (HGO.out _ _).mono ?_); rintro e w' ⟨rfl, hB⟩; replace HQ := (HQ.alloc _).on (hB.mono (by simp only [World.size_alloc]; omega)); clear hB c0 c1 c2 c3 d0 d1; obtain ⟨⟨c0, c1, c2, c3⟩, d0, d1⟩ := HQ.wp))
    | (go_at_call 14; go_must ((with_reducible refine (HRH.out _).mono ?_); rintro e w' ⟨rfl, hB⟩; replace HQ := HQ.on hB; clear hB c0 c1 c2 c3 d0 d1; obtain ⟨⟨c0, c1, c2, c3⟩, d0, d1⟩ := HQ.wp)))
  have HB := Lib.hid HQ.1
  clear HQ c0 c1 c2 c3 d0 d1
  go_ret
  exact ⟨rfl, HB.out⟩
set_option maxRecDepth 100000 in
set_option maxHeartbeats 4000000 in
theorem walk_good (L H p : Int × Int) (he : wnE L H = 0) (hg : gdL [p] = true) (w : World) :
    Calls Try.prog 3 #[.agg #[.int .i64 L.1, .int .i64 L.2, .int .i64 H.1, .int .i64 H.2], .agg #[.int .i64 p.1, .int .i64 p.2]] w fun e w' => e = .returned (.bool true) ∧ Below w.heap.size w w' := by
  have HOK := Lib.hid (fun W => ref_windowOK L H W)
  have HHA := Lib.hid (fun W => Has_any L H p W)
  have HCK := Lib.hid (fun W => wcheck_any L H W)
  have HRH := Lib.hid (fun W => ref_has L H p W)
  have HGO := Lib.hid (fun W t => ref_good_one p 1 W t)
  have e1 := frE_good he hg
  rw [haV_good e1, e1] at HHA
  rw [he] at HOK HCK
  rw [hg] at HGO
  clear he e1 hg
  have HQ := ((Hold.refl w).new #[.int .i64 L.1, .int .i64 L.2, .int .i64 H.1, .int .i64 H.2] 25).new' #[.int .i64 p.1, .int .i64 p.2] 23 (n := w.heap.size + 1) (by simp)
  go_enter Try.func3, Try.ntmps3
  go_upto_region 1 with (fail)
  generalize (World.alloc _ _) = W1 at HQ ⊢
  generalize w.heap.size + 1 = g1 at HQ ⊢
  obtain ⟨g0, hg0⟩ : ∃ g, w.heap.size = g := ⟨_, rfl⟩
  rw [hg0] at HQ ⊢
  have HG0 := Lib.hid hg0
  clear hg0
  obtain ⟨⟨c0, c1, c2, c3⟩, d0, d1⟩ := HQ.wp
  generalize hasB L H p = hb at *
  go_wp2_with (first
    | (go_at_call 9; go_must ((with_reducible refine (HOK.out _).mono ?_); rintro e w' ⟨rfl, hB⟩; replace HQ := HQ.on hB; clear hB c0 c1 c2 c3 d0 d1; obtain ⟨⟨c0, c1, c2, c3⟩, d0, d1⟩ := HQ.wp))
    | (go_at_call 10; go_must ((with_reducible refine (HHA.out _).mono ?_); rintro e w' ⟨rfl, hB⟩; replace HQ := HQ.on hB; clear hB c0 c1 c2 c3 d0 d1; obtain ⟨⟨c0, c1, c2, c3⟩, d0, d1⟩ := HQ.wp))
    | (go_at_call 11; go_must ((with_reducible refine (win_answers _).mono ?_); rintro e w' ⟨rfl, hB⟩; replace HQ := HQ.on hB; clear hB c0 c1 c2 c3 d0 d1; obtain ⟨⟨c0, c1, c2, c3⟩, d0, d1⟩ := HQ.wp))
    | (go_at_call 12; go_must ((with_reducible refine (HCK.out _).mono ?_); rintro e w' ⟨rfl, hB⟩; replace HQ := HQ.on hB; clear hB c0 c1 c2 c3 d0 d1; obtain ⟨⟨c0, c1, c2, c3⟩, d0, d1⟩ := HQ.wp))
    | (go_at_call 13; go_must ((with_reducible refine (HGO.out _ _).mono ?_); rintro e w' ⟨rfl, hB⟩; replace HQ := (HQ.alloc _).on (hB.mono (by simp only [World.size_alloc]; omega)); clear hB c0 c1 c2 c3 d0 d1; obtain ⟨⟨c0, c1, c2, c3⟩, d0, d1⟩ := HQ.wp))
    | (go_at_call 14; go_must ((with_reducible refine (HRH.out _).mono ?_); rintro e w' ⟨rfl, hB⟩; replace HQ := HQ.on hB; clear hB c0 c1 c2 c3 d0 d1; obtain ⟨⟨c0, c1, c2, c3⟩, d0, d1⟩ := HQ.wp)))
  have HB := Lib.hid HQ.1
  clear HQ c0 c1 c2 c3 d0 d1
  go_ret
  exact ⟨rfl, HB.out⟩
theorem law_walk (L H p : Int × Int) (w : World) :
    Calls Try.prog 3 #[.agg #[.int .i64 L.1, .int .i64 L.2, .int .i64 H.1, .int .i64 H.2], .agg #[.int .i64 p.1, .int .i64 p.2]] w fun e w' => e = .returned (.bool true) ∧ Below w.heap.size w w' := by
  by_cases he : wnE L H = 0
  · cases hg : gdL [p]
    · exact walk_far L H p he hg w
    · exact walk_good L H p he hg w
  · exact walk_bad L H p he w
end Go.Proofs.Ytjpjlnijmhjoaaa.windowHas
