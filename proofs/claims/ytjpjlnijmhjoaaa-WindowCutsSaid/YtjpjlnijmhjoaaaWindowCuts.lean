/- The law WindowCuts: which stretches have a point in a window. -/
import Derived.Test.YtjpjlnijmhjoaaaWinAns
namespace Go.Proofs.Ytjpjlnijmhjoaaa.windowCuts
open Go.RowKit

theorem cuV_bad {L H a b : Int × Int} (h : frE L H [a, b] ≠ 0) : cuV L H a b = false := by unfold cuV; rw [if_neg h]
theorem cuV_good {L H a b : Int × Int} (h : frE L H [a, b] = 0) : cuV L H a b = cutV L H a b := by unfold cuV; rw [if_pos h]
set_option maxRecDepth 100000 in
set_option maxHeartbeats 4000000 in
theorem walk_bad (L H a b : Int × Int) (he : wnE L H ≠ 0) (w : World) :
    Calls Try.prog 4 #[.agg #[.int .i64 L.1, .int .i64 L.2, .int .i64 H.1, .int .i64 H.2], .agg #[.int .i64 a.1, .int .i64 a.2], .agg #[.int .i64 b.1, .int .i64 b.2]] w fun e w' => e = .returned (.bool true) ∧ Below w.heap.size w w' := by
  have HOK := Lib.hid (fun W => ref_windowOK L H W)
  have HHA := Lib.hid (fun W => Cuts_any L H a b W)
  have HGO := Lib.hid (fun W t => ref_good_two a b 2 W t)
  have e1 := frE_bad (ps := [a, b]) he
  rw [cuV_bad (by rw [e1]; exact he), e1] at HHA
  have en : (wnE L H == 0) = false := by simpa using he
  clear he e1
  generalize wnE L H = x at *
  have HQ := (((Hold.refl w).new #[.int .i64 L.1, .int .i64 L.2, .int .i64 H.1, .int .i64 H.2] 25).new' #[.int .i64 a.1, .int .i64 a.2] 23 (n := w.heap.size + 1) (by simp)).new' #[.int .i64 b.1, .int .i64 b.2] 23 (n := w.heap.size + 1 + 1) (by simp)
  go_enter Try.func4, Try.ntmps4
  go_upto_region 1 with (fail)
  generalize (World.alloc _ _) = W1 at HQ ⊢
  generalize w.heap.size + 1 + 1 = g2 at HQ ⊢
  generalize w.heap.size + 1 = g1 at HQ ⊢
  obtain ⟨g0, hg0⟩ : ∃ g, w.heap.size = g := ⟨_, rfl⟩
  rw [hg0] at HQ ⊢
  have HG0 := Lib.hid hg0
  clear hg0
  obtain ⟨⟨c0, c1, c2, c3⟩, d0, d1, e0, e1⟩ := HQ.wab
  go_wp2_with (first
    | (go_at_call 9; go_must ((with_reducible refine (HOK.out _).mono ?_); rintro e w' ⟨rfl, hB⟩; replace HQ := HQ.on hB; clear hB c0 c1 c2 c3 d0 d1 e0 e1; obtain ⟨⟨c0, c1, c2, c3⟩, d0, d1, e0, e1⟩ := HQ.wab))
    | (go_at_call 15; go_must ((with_reducible refine (HHA.out _).mono ?_); rintro e w' ⟨rfl, hB⟩; replace HQ := HQ.on hB; clear hB c0 c1 c2 c3 d0 d1 e0 e1; obtain ⟨⟨c0, c1, c2, c3⟩, d0, d1, e0, e1⟩ := HQ.wab))
    | (go_at_call 11; go_must ((with_reducible refine (win_answers _).mono ?_); rintro e w' ⟨rfl, hB⟩; replace HQ := HQ.on hB; clear hB c0 c1 c2 c3 d0 d1 e0 e1; obtain ⟨⟨c0, c1, c2, c3⟩, d0, d1, e0, e1⟩ := HQ.wab))
    | (go_at_call 13; go_must ((with_reducible refine (HGO.out _ _).mono ?_); rintro e w' ⟨rfl, hB⟩; replace HQ := (HQ.alloc _).on (hB.mono (by simp only [World.size_alloc]; omega)); clear hB c0 c1 c2 c3 d0 d1 e0 e1; obtain ⟨⟨c0, c1, c2, c3⟩, d0, d1, e0, e1⟩ := HQ.wab))
    | (go_at_call 16; go_must ((with_reducible refine (HRH.out _).mono ?_); rintro e w' ⟨rfl, hB⟩; replace HQ := HQ.on hB; clear hB c0 c1 c2 c3 d0 d1 e0 e1; obtain ⟨⟨c0, c1, c2, c3⟩, d0, d1, e0, e1⟩ := HQ.wab)))
  have HB := Lib.hid HQ.1
  clear HQ c0 c1 c2 c3 d0 d1 e0 e1
  go_ret
  exact ⟨rfl, HB.out⟩
set_option maxRecDepth 100000 in
set_option maxHeartbeats 4000000 in
theorem walk_far (L H a b : Int × Int) (he : wnE L H = 0) (hg : gdL [a, b] = false) (w : World) :
    Calls Try.prog 4 #[.agg #[.int .i64 L.1, .int .i64 L.2, .int .i64 H.1, .int .i64 H.2], .agg #[.int .i64 a.1, .int .i64 a.2], .agg #[.int .i64 b.1, .int .i64 b.2]] w fun e w' => e = .returned (.bool true) ∧ Below w.heap.size w w' := by
  have HOK := Lib.hid (fun W => ref_windowOK L H W)
  have HHA := Lib.hid (fun W => Cuts_any L H a b W)
  have HGO := Lib.hid (fun W t => ref_good_two a b 2 W t)
  have e1 := frE_far he hg
  rw [cuV_bad (by rw [e1]; decide), e1] at HHA
  rw [he] at HOK
  rw [hg] at HGO
  clear he e1 hg
  have HQ := (((Hold.refl w).new #[.int .i64 L.1, .int .i64 L.2, .int .i64 H.1, .int .i64 H.2] 25).new' #[.int .i64 a.1, .int .i64 a.2] 23 (n := w.heap.size + 1) (by simp)).new' #[.int .i64 b.1, .int .i64 b.2] 23 (n := w.heap.size + 1 + 1) (by simp)
  go_enter Try.func4, Try.ntmps4
  go_upto_region 1 with (fail)
  generalize (World.alloc _ _) = W1 at HQ ⊢
  generalize w.heap.size + 1 + 1 = g2 at HQ ⊢
  generalize w.heap.size + 1 = g1 at HQ ⊢
  obtain ⟨g0, hg0⟩ : ∃ g, w.heap.size = g := ⟨_, rfl⟩
  rw [hg0] at HQ ⊢
  have HG0 := Lib.hid hg0
  clear hg0
  obtain ⟨⟨c0, c1, c2, c3⟩, d0, d1, e0, e1⟩ := HQ.wab
  go_wp2_with (first
    | (go_at_call 9; go_must ((with_reducible refine (HOK.out _).mono ?_); rintro e w' ⟨rfl, hB⟩; replace HQ := HQ.on hB; clear hB c0 c1 c2 c3 d0 d1 e0 e1; obtain ⟨⟨c0, c1, c2, c3⟩, d0, d1, e0, e1⟩ := HQ.wab))
    | (go_at_call 15; go_must ((with_reducible refine (HHA.out _).mono ?_); rintro e w' ⟨rfl, hB⟩; replace HQ := HQ.on hB; clear hB c0 c1 c2 c3 d0 d1 e0 e1; obtain ⟨⟨c0, c1, c2, c3⟩, d0, d1, e0, e1⟩ := HQ.wab))
    | (go_at_call 11; go_must ((with_reducible refine (win_answers _).mono ?_); rintro e w' ⟨rfl, hB⟩; replace HQ := HQ.on hB; clear hB c0 c1 c2 c3 d0 d1 e0 e1; obtain ⟨⟨c0, c1, c2, c3⟩, d0, d1, e0, e1⟩ := HQ.wab))
    | (go_at_call 13; go_must ((with_reducible refine (HGO.out _ _).mono ?_); rintro e w' ⟨rfl, hB⟩; replace HQ := (HQ.alloc _).on (hB.mono (by simp only [World.size_alloc]; omega)); clear hB c0 c1 c2 c3 d0 d1 e0 e1; obtain ⟨⟨c0, c1, c2, c3⟩, d0, d1, e0, e1⟩ := HQ.wab))
    | (go_at_call 16; go_must ((with_reducible refine (HRH.out _).mono ?_); rintro e w' ⟨rfl, hB⟩; replace HQ := HQ.on hB; clear hB c0 c1 c2 c3 d0 d1 e0 e1; obtain ⟨⟨c0, c1, c2, c3⟩, d0, d1, e0, e1⟩ := HQ.wab)))
  have HB := Lib.hid HQ.1
  clear HQ c0 c1 c2 c3 d0 d1 e0 e1
  go_ret
  exact ⟨rfl, HB.out⟩
set_option maxRecDepth 100000 in
set_option maxHeartbeats 4000000 in
theorem walk_good (L H a b : Int × Int) (he : wnE L H = 0) (hg : gdL [a, b] = true) (w : World) :
    Calls Try.prog 4 #[.agg #[.int .i64 L.1, .int .i64 L.2, .int .i64 H.1, .int .i64 H.2], .agg #[.int .i64 a.1, .int .i64 a.2], .agg #[.int .i64 b.1, .int .i64 b.2]] w fun e w' => e = .returned (.bool true) ∧ Below w.heap.size w w' := by
  have HOK := Lib.hid (fun W => ref_windowOK L H W)
  have HHA := Lib.hid (fun W => Cuts_any L H a b W)
  have HGO := Lib.hid (fun W t => ref_good_two a b 2 W t)
  have HRH := Lib.hid (fun W => ref_cuts L H a b (wnE_zero.1 he).2 (wnE_zero.1 he).1 (gdL_two.1 hg).1 (gdL_two.1 hg).2 W)
  have e1 := frE_good he hg
  rw [cuV_good e1, e1] at HHA
  rw [he] at HOK
  rw [hg] at HGO
  clear he e1 hg
  have HQ := (((Hold.refl w).new #[.int .i64 L.1, .int .i64 L.2, .int .i64 H.1, .int .i64 H.2] 25).new' #[.int .i64 a.1, .int .i64 a.2] 23 (n := w.heap.size + 1) (by simp)).new' #[.int .i64 b.1, .int .i64 b.2] 23 (n := w.heap.size + 1 + 1) (by simp)
  go_enter Try.func4, Try.ntmps4
  go_upto_region 1 with (fail)
  generalize (World.alloc _ _) = W1 at HQ ⊢
  generalize w.heap.size + 1 + 1 = g2 at HQ ⊢
  generalize w.heap.size + 1 = g1 at HQ ⊢
  obtain ⟨g0, hg0⟩ : ∃ g, w.heap.size = g := ⟨_, rfl⟩
  rw [hg0] at HQ ⊢
  have HG0 := Lib.hid hg0
  clear hg0
  obtain ⟨⟨c0, c1, c2, c3⟩, d0, d1, e0, e1⟩ := HQ.wab
  generalize cutV L H a b = hb at *
  go_wp2_with (first
    | (go_at_call 9; go_must ((with_reducible refine (HOK.out _).mono ?_); rintro e w' ⟨rfl, hB⟩; replace HQ := HQ.on hB; clear hB c0 c1 c2 c3 d0 d1 e0 e1; obtain ⟨⟨c0, c1, c2, c3⟩, d0, d1, e0, e1⟩ := HQ.wab))
    | (go_at_call 15; go_must ((with_reducible refine (HHA.out _).mono ?_); rintro e w' ⟨rfl, hB⟩; replace HQ := HQ.on hB; clear hB c0 c1 c2 c3 d0 d1 e0 e1; obtain ⟨⟨c0, c1, c2, c3⟩, d0, d1, e0, e1⟩ := HQ.wab))
    | (go_at_call 11; go_must ((with_reducible refine (win_answers _).mono ?_); rintro e w' ⟨rfl, hB⟩; replace HQ := HQ.on hB; clear hB c0 c1 c2 c3 d0 d1 e0 e1; obtain ⟨⟨c0, c1, c2, c3⟩, d0, d1, e0, e1⟩ := HQ.wab))
    | (go_at_call 13; go_must ((with_reducible refine (HGO.out _ _).mono ?_); rintro e w' ⟨rfl, hB⟩; replace HQ := (HQ.alloc _).on (hB.mono (by simp only [World.size_alloc]; omega)); clear hB c0 c1 c2 c3 d0 d1 e0 e1; obtain ⟨⟨c0, c1, c2, c3⟩, d0, d1, e0, e1⟩ := HQ.wab))
    | (go_at_call 16; go_must ((with_reducible refine (HRH.out _).mono ?_); rintro e w' ⟨rfl, hB⟩; replace HQ := HQ.on hB; clear hB c0 c1 c2 c3 d0 d1 e0 e1; obtain ⟨⟨c0, c1, c2, c3⟩, d0, d1, e0, e1⟩ := HQ.wab)))
  have HB := Lib.hid HQ.1
  clear HQ c0 c1 c2 c3 d0 d1 e0 e1
  go_ret
  exact ⟨rfl, HB.out⟩
theorem law_walk (L H a b : Int × Int) (w : World) :
    Calls Try.prog 4 #[.agg #[.int .i64 L.1, .int .i64 L.2, .int .i64 H.1, .int .i64 H.2], .agg #[.int .i64 a.1, .int .i64 a.2], .agg #[.int .i64 b.1, .int .i64 b.2]] w fun e w' => e = .returned (.bool true) ∧ Below w.heap.size w w' := by
  by_cases he : wnE L H = 0
  · cases hg : gdL [a, b]
    · exact walk_far L H a b he hg w
    · exact walk_good L H a b he hg w
  · exact walk_bad L H a b he w
end Go.Proofs.Ytjpjlnijmhjoaaa.windowCuts
