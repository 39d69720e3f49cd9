/- The program's calls on windows, as the laws call them: Has, Cuts, Meets, of any window, points and ring. -/
import Derived.Test.YtjpjlnijmhjoaaaWinD
import Derived.Test.YtjpjlnijmhjoaaaRingC
namespace Go.Proofs.Ytjpjlnijmhjoaaa
open Go.RowKit

/-- The error of a window and points, and what Has and Cuts answer. -/
def frE (L H : Int × Int) (ps : List (Int × Int)) : Int := if wnE L H ≠ 0 then wnE L H else if gdL ps then 0 else 3
def haV (L H p : Int × Int) : Bool := if frE L H [p] = 0 then hasB L H p else false
noncomputable def cuV (L H a b : Int × Int) : Bool := if frE L H [a, b] = 0 then cutV L H a b else false
/-- The error of a window and a ring, and what Meets answers. -/
noncomputable def meE (L H : Int × Int) (ps : List (Int × Int)) : Int := if wnE L H ≠ 0 then wnE L H else chE ps
noncomputable def meV (L H : Int × Int) (ps : List (Int × Int)) : Bool := if meE L H ps = 0 then metV L H ps else false
theorem frE_bad {L H : Int × Int} {ps : List (Int × Int)} (h : wnE L H ≠ 0) : frE L H ps = wnE L H := by unfold frE; rw [if_pos h]
theorem frE_far {L H : Int × Int} {ps : List (Int × Int)} (h : wnE L H = 0) (hg : gdL ps = false) : frE L H ps = 3 := by unfold frE; rw [if_neg (by omega), hg]; rfl
theorem frE_good {L H : Int × Int} {ps : List (Int × Int)} (h : wnE L H = 0) (hg : gdL ps = true) : frE L H ps = 0 := by unfold frE; rw [if_neg (by omega), hg]; rfl
theorem pts_nil (w : World) (B : Nat) : Pts w B none [] := by
  intro h
  simp at h
section
variable (L H : Int × Int) (ps : List (Int × Int)) (cap : Nat) (w W : World) (t : TypeId)
theorem framed_new_far (hn : ps.length ≤ maxLen) (hW : W = w.alloc (Obj.cells (flatP ps).toArray t (0, 0))) (he : wnE L H = 0) (hg : gdL ps = false) :
    Calls Try.prog 22 #[.agg #[.int .i64 L.1, .int .i64 L.2, .int .i64 H.1, .int .i64 H.2], .slice (some ⟨w.heap.size, 0, none⟩) ps.length cap] W fun e w' => e = .returned (.tuple #[.agg #[.int .i64 0, .int .i64 0, .int .i64 0, .int .i64 0, .int .i64 0, .int .i64 0, .int .i64 0, .int .i64 0, .int .i64 0, .int .i64 0, .int .i64 0, .int .i64 0], .int .i64 3]) ∧ Below W.heap.size W w' := by
  subst hW
  exact framed_far L H ps _ cap he hg hn _ (pts_of (heap_alloc_new w _) (by simp only [World.size_alloc]; omega))
theorem framed_new_good (hn : ps.length ≤ maxLen) (hW : W = w.alloc (Obj.cells (flatP ps).toArray t (0, 0))) (he : wnE L H = 0) (hg : gdL ps = true) :
    Calls Try.prog 22 #[.agg #[.int .i64 L.1, .int .i64 L.2, .int .i64 H.1, .int .i64 H.2], .slice (some ⟨w.heap.size, 0, none⟩) ps.length cap] W fun e w' => e = .returned (.tuple #[.agg #[.int .i64 L.1, .int .i64 L.2, .int .i64 H.1, .int .i64 H.2, .int .i64 L.1, .int .i64 L.2, .int .i64 H.1, .int .i64 L.2, .int .i64 H.1, .int .i64 H.2, .int .i64 L.1, .int .i64 H.2], .int .i64 0]) ∧ Below W.heap.size W w' := by
  subst hW
  exact framed_good L H ps _ cap he hg hn _ (pts_of (heap_alloc_new w _) (by simp only [World.size_alloc]; omega))
end

theorem framed1_far (L H p : Int × Int) (cap : Nat) (w : World) (t : TypeId) (he : wnE L H = 0) (hg : gdL [p] = false) :
    Calls Try.prog 22 #[.agg #[.int .i64 L.1, .int .i64 L.2, .int .i64 H.1, .int .i64 H.2], .slice (some ⟨w.heap.size, 0, none⟩) 1 cap] (w.alloc (Obj.cells #[.int .i64 p.1, .int .i64 p.2] t (0, 0))) fun e w' => e = .returned (.tuple #[.agg #[.int .i64 0, .int .i64 0, .int .i64 0, .int .i64 0, .int .i64 0, .int .i64 0, .int .i64 0, .int .i64 0, .int .i64 0, .int .i64 0, .int .i64 0, .int .i64 0], .int .i64 3]) ∧ Below (w.heap.size + 1) (w.alloc (Obj.cells #[.int .i64 p.1, .int .i64 p.2] t (0, 0))) w' := by
  have h := framed_new_far L H [p] cap w _ t (by unfold maxLen; simp) rfl he hg
  simp only [World.size_alloc] at h
  exact h
theorem framed1_good (L H p : Int × Int) (cap : Nat) (w : World) (t : TypeId) (he : wnE L H = 0) (hg : gdL [p] = true) :
    Calls Try.prog 22 #[.agg #[.int .i64 L.1, .int .i64 L.2, .int .i64 H.1, .int .i64 H.2], .slice (some ⟨w.heap.size, 0, none⟩) 1 cap] (w.alloc (Obj.cells #[.int .i64 p.1, .int .i64 p.2] t (0, 0))) fun e w' => e = .returned (.tuple #[.agg #[.int .i64 L.1, .int .i64 L.2, .int .i64 H.1, .int .i64 H.2, .int .i64 L.1, .int .i64 L.2, .int .i64 H.1, .int .i64 L.2, .int .i64 H.1, .int .i64 H.2, .int .i64 L.1, .int .i64 H.2], .int .i64 0]) ∧ Below (w.heap.size + 1) (w.alloc (Obj.cells #[.int .i64 p.1, .int .i64 p.2] t (0, 0))) w' := by
  have h := framed_new_good L H [p] cap w _ t (by unfold maxLen; simp) rfl he hg
  simp only [World.size_alloc] at h
  exact h
theorem framed1_bad (L H p : Int × Int) (v : Value) (w : World) (t : TypeId) (he : wnE L H ≠ 0) :
    Calls Try.prog 22 #[.agg #[.int .i64 L.1, .int .i64 L.2, .int .i64 H.1, .int .i64 H.2], v] (w.alloc (Obj.cells #[.int .i64 p.1, .int .i64 p.2] t (0, 0))) fun e w' => e = .returned (.tuple #[.agg #[.int .i64 0, .int .i64 0, .int .i64 0, .int .i64 0, .int .i64 0, .int .i64 0, .int .i64 0, .int .i64 0, .int .i64 0, .int .i64 0, .int .i64 0, .int .i64 0], .int .i64 (wnE L H)]) ∧ Below (w.heap.size + 1) (w.alloc (Obj.cells #[.int .i64 p.1, .int .i64 p.2] t (0, 0))) w' := by
  have h := framed_bad L H v he (w.alloc (Obj.cells #[.int .i64 p.1, .int .i64 p.2] t (0, 0)))
  simp only [World.size_alloc] at h
  exact h
theorem framed2_far (L H a b : Int × Int) (cap : Nat) (w : World) (t : TypeId) (he : wnE L H = 0) (hg : gdL [a, b] = false) :
    Calls Try.prog 22 #[.agg #[.int .i64 L.1, .int .i64 L.2, .int .i64 H.1, .int .i64 H.2], .slice (some ⟨w.heap.size, 0, none⟩) 2 cap] (w.alloc (Obj.cells #[.int .i64 a.1, .int .i64 a.2, .int .i64 b.1, .int .i64 b.2] t (0, 0))) fun e w' => e = .returned (.tuple #[.agg #[.int .i64 0, .int .i64 0, .int .i64 0, .int .i64 0, .int .i64 0, .int .i64 0, .int .i64 0, .int .i64 0, .int .i64 0, .int .i64 0, .int .i64 0, .int .i64 0], .int .i64 3]) ∧ Below (w.heap.size + 1) (w.alloc (Obj.cells #[.int .i64 a.1, .int .i64 a.2, .int .i64 b.1, .int .i64 b.2] t (0, 0))) w' := by
  have h := framed_new_far L H [a, b] cap w _ t (by unfold maxLen; simp) rfl he hg
  simp only [World.size_alloc] at h
  exact h
theorem framed2_good (L H a b : Int × Int) (cap : Nat) (w : World) (t : TypeId) (he : wnE L H = 0) (hg : gdL [a, b] = true) :
    Calls Try.prog 22 #[.agg #[.int .i64 L.1, .int .i64 L.2, .int .i64 H.1, .int .i64 H.2], .slice (some ⟨w.heap.size, 0, none⟩) 2 cap] (w.alloc (Obj.cells #[.int .i64 a.1, .int .i64 a.2, .int .i64 b.1, .int .i64 b.2] t (0, 0))) fun e w' => e = .returned (.tuple #[.agg #[.int .i64 L.1, .int .i64 L.2, .int .i64 H.1, .int .i64 H.2, .int .i64 L.1, .int .i64 L.2, .int .i64 H.1, .int .i64 L.2, .int .i64 H.1, .int .i64 H.2, .int .i64 L.1, .int .i64 H.2], .int .i64 0]) ∧ Below (w.heap.size + 1) (w.alloc (Obj.cells #[.int .i64 a.1, .int .i64 a.2, .int .i64 b.1, .int .i64 b.2] t (0, 0))) w' := by
  have h := framed_new_good L H [a, b] cap w _ t (by unfold maxLen; simp) rfl he hg
  simp only [World.size_alloc] at h
  exact h
theorem framed2_bad (L H a b : Int × Int) (v : Value) (w : World) (t : TypeId) (he : wnE L H ≠ 0) :
    Calls Try.prog 22 #[.agg #[.int .i64 L.1, .int .i64 L.2, .int .i64 H.1, .int .i64 H.2], v] (w.alloc (Obj.cells #[.int .i64 a.1, .int .i64 a.2, .int .i64 b.1, .int .i64 b.2] t (0, 0))) fun e w' => e = .returned (.tuple #[.agg #[.int .i64 0, .int .i64 0, .int .i64 0, .int .i64 0, .int .i64 0, .int .i64 0, .int .i64 0, .int .i64 0, .int .i64 0, .int .i64 0, .int .i64 0, .int .i64 0], .int .i64 (wnE L H)]) ∧ Below (w.heap.size + 1) (w.alloc (Obj.cells #[.int .i64 a.1, .int .i64 a.2, .int .i64 b.1, .int .i64 b.2] t (0, 0))) w' := by
  have h := framed_bad L H v he (w.alloc (Obj.cells #[.int .i64 a.1, .int .i64 a.2, .int .i64 b.1, .int .i64 b.2] t (0, 0)))
  simp only [World.size_alloc] at h
  exact h
set_option maxRecDepth 100000 in
set_option maxHeartbeats 4000000 in
theorem Has_bad (L H p : Int × Int) (he : wnE L H ≠ 0) (w : World) :
    Calls Try.prog 10 #[.agg #[.int .i64 L.1, .int .i64 L.2, .int .i64 H.1, .int .i64 H.2], .agg #[.int .i64 p.1, .int .i64 p.2]] w fun e w' => e = .returned (.tuple #[.bool false, .int .i64 (wnE L H)]) ∧ Below w.heap.size w w' := by
  have HQ := ((Hold.refl w).new #[.int .i64 L.1, .int .i64 L.2, .int .i64 H.1, .int .i64 H.2] 25).new' #[.int .i64 p.1, .int .i64 p.2] 23 (n := w.heap.size + 1) (by simp)
  go_enter Try.func10, Try.ntmps10
  go_upto_region 1 with (fail)
  generalize (World.alloc _ _) = W1 at HQ ⊢
  generalize w.heap.size + 1 = g1 at HQ ⊢
  obtain ⟨g0, hg0⟩ : ∃ g, w.heap.size = g := ⟨_, rfl⟩
  rw [hg0] at HQ ⊢
  have HG0 := Lib.hid hg0
  clear hg0
  obtain ⟨c0, c1, c2, c3⟩ := HQ.win (.tail _ (.head _))
  obtain ⟨d0, d1⟩ := HQ.pt (.head _)
  go_wp2_with fail
  go_at_call 22
  refine (framed1_bad L H p _ _ _ he).mono ?_
  rintro e w2 ⟨rfl, hB⟩
  have HB := Lib.hid (((HQ.alloc _).on (hB.mono (by simp only [World.size_alloc]; omega))).1.alloc (((HQ.alloc _).on (hB.mono (by simp only [World.size_alloc]; omega))).1.size) (Obj.cells #[.int .i64 0, .int .i64 0, .int .i64 0, .int .i64 0, .int .i64 0, .int .i64 0, .int .i64 0, .int .i64 0, .int .i64 0, .int .i64 0, .int .i64 0, .int .i64 0] 48))
  clear hB HQ c0 c1 c2 c3 d0 d1
  have e0 : (wnE L H != 0) = true := by simpa using he
  clear he
  go_wp2
  go_ret2
  exact ⟨rfl, HB.out⟩

set_option maxRecDepth 100000 in
set_option maxHeartbeats 4000000 in
theorem Has_far (L H p : Int × Int) (he : wnE L H = 0) (hg : gdL [p] = false) (w : World) :
    Calls Try.prog 10 #[.agg #[.int .i64 L.1, .int .i64 L.2, .int .i64 H.1, .int .i64 H.2], .agg #[.int .i64 p.1, .int .i64 p.2]] w fun e w' => e = .returned (.tuple #[.bool false, .int .i64 3]) ∧ Below w.heap.size w w' := by
  have HQ := ((Hold.refl w).new #[.int .i64 L.1, .int .i64 L.2, .int .i64 H.1, .int .i64 H.2] 25).new' #[.int .i64 p.1, .int .i64 p.2] 23 (n := w.heap.size + 1) (by simp)
  go_enter Try.func10, Try.ntmps10
  go_upto_region 1 with (fail)
  generalize (World.alloc _ _) = W1 at HQ ⊢
  generalize w.heap.size + 1 = g1 at HQ ⊢
  obtain ⟨g0, hg0⟩ : ∃ g, w.heap.size = g := ⟨_, rfl⟩
  rw [hg0] at HQ ⊢
  have HG0 := Lib.hid hg0
  clear hg0
  obtain ⟨c0, c1, c2, c3⟩ := HQ.win (.tail _ (.head _))
  obtain ⟨d0, d1⟩ := HQ.pt (.head _)
  go_wp2_with fail
  go_at_call 22
  refine (framed1_far L H p _ _ _ he hg).mono ?_
  rintro e w2 ⟨rfl, hB⟩
  have HB := Lib.hid (((HQ.alloc _).on (hB.mono (by simp only [World.size_alloc]; omega))).1.alloc (((HQ.alloc _).on (hB.mono (by simp only [World.size_alloc]; omega))).1.size) (Obj.cells #[.int .i64 0, .int .i64 0, .int .i64 0, .int .i64 0, .int .i64 0, .int .i64 0, .int .i64 0, .int .i64 0, .int .i64 0, .int .i64 0, .int .i64 0, .int .i64 0] 48))
  clear hB HQ c0 c1 c2 c3 d0 d1
  go_wp2
  go_ret2
  exact ⟨rfl, HB.out⟩

set_option maxRecDepth 100000 in
set_option maxHeartbeats 4000000 in
theorem Has_good (L H p : Int × Int) (he : wnE L H = 0) (hg : gdL [p] = true) (w : World) :
    Calls Try.prog 10 #[.agg #[.int .i64 L.1, .int .i64 L.2, .int .i64 H.1, .int .i64 H.2], .agg #[.int .i64 p.1, .int .i64 p.2]] w fun e w' => e = .returned (.tuple #[.bool (hasB L H p), .int .i64 0]) ∧ Below w.heap.size w w' := by
  have HI := Lib.hid (fun W => fhas_any L H p W)
  have HQ := ((Hold.refl w).new #[.int .i64 L.1, .int .i64 L.2, .int .i64 H.1, .int .i64 H.2] 25).new' #[.int .i64 p.1, .int .i64 p.2] 23 (n := w.heap.size + 1) (by simp)
  go_enter Try.func10, Try.ntmps10
  go_upto_region 1 with (fail)
  generalize (World.alloc _ _) = W1 at HQ ⊢
  generalize w.heap.size + 1 = g1 at HQ ⊢
  obtain ⟨g0, hg0⟩ : ∃ g, w.heap.size = g := ⟨_, rfl⟩
  rw [hg0] at HQ ⊢
  have HG0 := Lib.hid hg0
  clear hg0
  obtain ⟨c0, c1, c2, c3⟩ := HQ.win (.tail _ (.head _))
  obtain ⟨d0, d1⟩ := HQ.pt (.head _)
  go_wp2_with fail
  go_at_call 22
  refine (framed1_good L H p _ _ _ he hg).mono ?_
  rintro e w2 ⟨rfl, hB⟩
  replace HQ := ((HQ.alloc (Obj.cells #[.int .i64 p.1, .int .i64 p.2] 23)).on (hB.mono (by simp only [World.size_alloc]; omega))).new #[.int .i64 L.1, .int .i64 L.2, .int .i64 H.1, .int .i64 H.2, .int .i64 L.1, .int .i64 L.2, .int .i64 H.1, .int .i64 L.2, .int .i64 H.1, .int .i64 H.2, .int .i64 L.1, .int .i64 H.2] 48
  clear hB c0 c1 c2 c3 d0 d1 he hg
  obtain ⟨d0, d1⟩ := HQ.pt (.tail _ (.head _))
  go_wp2_with fail
  go_at_call 23
  refine (HI.out _).mono ?_
  rintro e w3 ⟨rfl, hB⟩
  have HB := Lib.hid (HQ.on hB).1
  clear hB HQ d0 d1 HI
  go_wp2
  go_ret2
  exact ⟨rfl, HB.out⟩

set_option maxRecDepth 100000 in
set_option maxHeartbeats 4000000 in
theorem Cuts_bad (L H a b : Int × Int) (he : wnE L H ≠ 0) (w : World) :
    Calls Try.prog 15 #[.agg #[.int .i64 L.1, .int .i64 L.2, .int .i64 H.1, .int .i64 H.2], .agg #[.int .i64 a.1, .int .i64 a.2], .agg #[.int .i64 b.1, .int .i64 b.2]] w fun e w' => e = .returned (.tuple #[.bool false, .int .i64 (wnE L H)]) ∧ Below w.heap.size w w' := by
  have HQ := (((Hold.refl w).new #[.int .i64 L.1, .int .i64 L.2, .int .i64 H.1, .int .i64 H.2] 25).new' #[.int .i64 a.1, .int .i64 a.2] 23 (n := w.heap.size + 1) (by simp)).new' #[.int .i64 b.1, .int .i64 b.2] 23 (n := w.heap.size + 1 + 1) (by simp)
  go_enter Try.func15, Try.ntmps15
  go_upto_region 1 with (fail)
  generalize (World.alloc _ _) = W1 at HQ ⊢
  generalize w.heap.size + 1 + 1 = g2 at HQ ⊢
  generalize w.heap.size + 1 = g1 at HQ ⊢
  obtain ⟨g0, hg0⟩ : ∃ g, w.heap.size = g := ⟨_, rfl⟩
  rw [hg0] at HQ ⊢
  have HG0 := Lib.hid hg0
  clear hg0
  obtain ⟨c0, c1, c2, c3⟩ := HQ.win (.tail _ (.tail _ (.head _)))
  obtain ⟨d0, d1⟩ := HQ.pt (.head _)
  obtain ⟨d2, d3⟩ := HQ.pt (.tail _ (.head _))
  go_wp2_with fail
  go_at_call 22
  refine (framed2_bad L H a b _ _ _ he).mono ?_
  rintro e w2 ⟨rfl, hB⟩
  have HB := Lib.hid (((HQ.alloc _).on (hB.mono (by simp only [World.size_alloc]; omega))).1.alloc (((HQ.alloc _).on (hB.mono (by simp only [World.size_alloc]; omega))).1.size) (Obj.cells #[.int .i64 0, .int .i64 0, .int .i64 0, .int .i64 0, .int .i64 0, .int .i64 0, .int .i64 0, .int .i64 0, .int .i64 0, .int .i64 0, .int .i64 0, .int .i64 0] 48))
  clear hB HQ c0 c1 c2 c3 d0 d1 d2 d3
  have e0 : (wnE L H != 0) = true := by simpa using he
  clear he
  go_wp2
  go_ret2
  exact ⟨rfl, HB.out⟩

set_option maxRecDepth 100000 in
set_option maxHeartbeats 4000000 in
theorem Cuts_far (L H a b : Int × Int) (he : wnE L H = 0) (hg : gdL [a, b] = false) (w : World) :
    Calls Try.prog 15 #[.agg #[.int .i64 L.1, .int .i64 L.2, .int .i64 H.1, .int .i64 H.2], .agg #[.int .i64 a.1, .int .i64 a.2], .agg #[.int .i64 b.1, .int .i64 b.2]] w fun e w' => e = .returned (.tuple #[.bool false, .int .i64 3]) ∧ Below w.heap.size w w' := by
  have HQ := (((Hold.refl w).new #[.int .i64 L.1, .int .i64 L.2, .int .i64 H.1, .int .i64 H.2] 25).new' #[.int .i64 a.1, .int .i64 a.2] 23 (n := w.heap.size + 1) (by simp)).new' #[.int .i64 b.1, .int .i64 b.2] 23 (n := w.heap.size + 1 + 1) (by simp)
  go_enter Try.func15, Try.ntmps15
  go_upto_region 1 with (fail)
  generalize (World.alloc _ _) = W1 at HQ ⊢
  generalize w.heap.size + 1 + 1 = g2 at HQ ⊢
  generalize w.heap.size + 1 = g1 at HQ ⊢
  obtain ⟨g0, hg0⟩ : ∃ g, w.heap.size = g := ⟨_, rfl⟩
  rw [hg0] at HQ ⊢
  have HG0 := Lib.hid hg0
  clear hg0
  obtain ⟨c0, c1, c2, c3⟩ := HQ.win (.tail _ (.tail _ (.head _)))
  obtain ⟨d0, d1⟩ := HQ.pt (.head _)
  obtain ⟨d2, d3⟩ := HQ.pt (.tail _ (.head _))
  go_wp2_with fail
  go_at_call 22
  refine (framed2_far L H a b _ _ _ he hg).mono ?_
  rintro e w2 ⟨rfl, hB⟩
  have HB := Lib.hid (((HQ.alloc _).on (hB.mono (by simp only [World.size_alloc]; omega))).1.alloc (((HQ.alloc _).on (hB.mono (by simp only [World.size_alloc]; omega))).1.size) (Obj.cells #[.int .i64 0, .int .i64 0, .int .i64 0, .int .i64 0, .int .i64 0, .int .i64 0, .int .i64 0, .int .i64 0, .int .i64 0, .int .i64 0, .int .i64 0, .int .i64 0] 48))
  clear hB HQ c0 c1 c2 c3 d0 d1 d2 d3
  go_wp2
  go_ret2
  exact ⟨rfl, HB.out⟩

set_option maxRecDepth 100000 in
set_option maxHeartbeats 4000000 in
theorem Cuts_good (L H a b : Int × Int) (he : wnE L H = 0) (hg : gdL [a, b] = true) (w : World) :
    Calls Try.prog 15 #[.agg #[.int .i64 L.1, .int .i64 L.2, .int .i64 H.1, .int .i64 H.2], .agg #[.int .i64 a.1, .int .i64 a.2], .agg #[.int .i64 b.1, .int .i64 b.2]] w fun e w' => e = .returned (.tuple #[.bool (cutV L H a b), .int .i64 0]) ∧ Below w.heap.size w w' := by
  have HI := Lib.hid (fun W => fcut_any L H a b (wnE_zero.1 he).2 (wnE_zero.1 he).1 (gdL_two.1 hg).1 (gdL_two.1 hg).2 W)
  have HQ := (((Hold.refl w).new #[.int .i64 L.1, .int .i64 L.2, .int .i64 H.1, .int .i64 H.2] 25).new' #[.int .i64 a.1, .int .i64 a.2] 23 (n := w.heap.size + 1) (by simp)).new' #[.int .i64 b.1, .int .i64 b.2] 23 (n := w.heap.size + 1 + 1) (by simp)
  go_enter Try.func15, Try.ntmps15
  go_upto_region 1 with (fail)
  generalize (World.alloc _ _) = W1 at HQ ⊢
  generalize w.heap.size + 1 + 1 = g2 at HQ ⊢
  generalize w.heap.size + 1 = g1 at HQ ⊢
  obtain ⟨g0, hg0⟩ : ∃ g, w.heap.size = g := ⟨_, rfl⟩
  rw [hg0] at HQ ⊢
  have HG0 := Lib.hid hg0
  clear hg0
  obtain ⟨c0, c1, c2, c3⟩ := HQ.win (.tail _ (.tail _ (.head _)))
  obtain ⟨d0, d1⟩ := HQ.pt (.head _)
  obtain ⟨d2, d3⟩ := HQ.pt (.tail _ (.head _))
  go_wp2_with fail
  go_at_call 22
  refine (framed2_good L H a b _ _ _ he hg).mono ?_
  rintro e w2 ⟨rfl, hB⟩
  replace HQ := ((HQ.alloc (Obj.cells #[.int .i64 a.1, .int .i64 a.2, .int .i64 b.1, .int .i64 b.2] 23)).on (hB.mono (by simp only [World.size_alloc]; omega))).new #[.int .i64 L.1, .int .i64 L.2, .int .i64 H.1, .int .i64 H.2, .int .i64 L.1, .int .i64 L.2, .int .i64 H.1, .int .i64 L.2, .int .i64 H.1, .int .i64 H.2, .int .i64 L.1, .int .i64 H.2] 48
  clear hB c0 c1 c2 c3 d0 d1 d2 d3 he hg
  obtain ⟨d0, d1⟩ := HQ.pt (.tail _ (.head _))
  obtain ⟨d2, d3⟩ := HQ.pt (.tail _ (.tail _ (.head _)))
  go_wp2_with fail
  go_at_call 25
  refine (HI.out _).mono ?_
  rintro e w3 ⟨rfl, hB⟩
  have HB := Lib.hid (HQ.on hB).1
  clear hB HQ d0 d1 d2 d3 HI
  go_wp2
  go_ret2
  exact ⟨rfl, HB.out⟩

theorem Has_any (L H p : Int × Int) (w : World) :
    Calls Try.prog 10 #[.agg #[.int .i64 L.1, .int .i64 L.2, .int .i64 H.1, .int .i64 H.2], .agg #[.int .i64 p.1, .int .i64 p.2]] w fun e w' => e = .returned (.tuple #[.bool (haV L H p), .int .i64 (frE L H [p])]) ∧ Below w.heap.size w w' := by
  unfold haV
  by_cases he : wnE L H = 0
  · cases hg : gdL [p]
    · rw [frE_far he hg, if_neg (by decide)]; exact Has_far L H p he hg w
    · rw [frE_good he hg, if_pos rfl]; exact Has_good L H p he hg w
  · rw [frE_bad he, if_neg he]; exact Has_bad L H p he w
theorem Cuts_any (L H a b : Int × Int) (w : World) :
    Calls Try.prog 15 #[.agg #[.int .i64 L.1, .int .i64 L.2, .int .i64 H.1, .int .i64 H.2], .agg #[.int .i64 a.1, .int .i64 a.2], .agg #[.int .i64 b.1, .int .i64 b.2]] w fun e w' => e = .returned (.tuple #[.bool (cuV L H a b), .int .i64 (frE L H [a, b])]) ∧ Below w.heap.size w w' := by
  unfold cuV
  by_cases he : wnE L H = 0
  · cases hg : gdL [a, b]
    · rw [frE_far he hg, if_neg (by decide)]; exact Cuts_far L H a b he hg w
    · rw [frE_good he hg, if_pos rfl]; exact Cuts_good L H a b he hg w
  · rw [frE_bad he, if_neg he]; exact Cuts_bad L H a b he w

set_option maxRecDepth 100000 in
set_option maxHeartbeats 4000000 in
theorem Meets_bad (L H : Int × Int) (v : Value) (he : wnE L H ≠ 0) (w : World) :
    Calls Try.prog 18 #[.agg #[.int .i64 L.1, .int .i64 L.2, .int .i64 H.1, .int .i64 H.2], v] w fun e w' => e = .returned (.tuple #[.bool false, .int .i64 (wnE L H)]) ∧ Below w.heap.size w w' := by
  have HQ := (Hold.refl w).new #[.int .i64 L.1, .int .i64 L.2, .int .i64 H.1, .int .i64 H.2] 25
  go_enter Try.func18, Try.ntmps18
  go_upto_region 1 with (fail)
  generalize (World.alloc _ _) = W1 at HQ ⊢
  obtain ⟨g0, hg0⟩ : ∃ g, w.heap.size = g := ⟨_, rfl⟩
  rw [hg0] at HQ ⊢
  have HG0 := Lib.hid hg0
  clear hg0
  obtain ⟨c0, c1, c2, c3⟩ := HQ.win (.head _)
  go_wp2_with fail
  go_at_call 22
  refine (framed_bad L H _ he _).mono ?_
  rintro e w2 ⟨rfl, hB⟩
  have HB := Lib.hid ((HQ.on hB).1.alloc ((HQ.on hB).1.size) (Obj.cells #[.int .i64 0, .int .i64 0, .int .i64 0, .int .i64 0, .int .i64 0, .int .i64 0, .int .i64 0, .int .i64 0, .int .i64 0, .int .i64 0, .int .i64 0, .int .i64 0] 48))
  clear hB HQ c0 c1 c2 c3
  have e0 : (wnE L H != 0) = true := by simpa using he
  clear he
  go_wp2
  go_ret2
  exact ⟨rfl, HB.out⟩

set_option maxRecDepth 100000 in
set_option maxHeartbeats 4000000 in
theorem Meets_ill (L H : Int × Int) (ps : List (Int × Int)) (A : Option Addr) (cap : Nat) (he : wnE L H = 0) (hc : chE ps ≠ 0) (hn : ps.length ≤ maxLen) (w : World) (hr : Pts w w.heap.size A ps) :
    Calls Try.prog 18 #[.agg #[.int .i64 L.1, .int .i64 L.2, .int .i64 H.1, .int .i64 H.2], .slice A ps.length cap] w fun e w' => e = .returned (.tuple #[.bool false, .int .i64 (chE ps)]) ∧ Below w.heap.size w w' := by
  have HQ := (Hold.refl w).new #[.int .i64 L.1, .int .i64 L.2, .int .i64 H.1, .int .i64 H.2] 25
  have HS := Lib.hid (fun K W (h : Hold w K W) => Side_any ps A cap L hn W (hr.on h.1))
  have e1 : sdE ps L = chE ps := by unfold sdE; rw [if_pos hc]
  have e2 : sdV ps L = 0 := by unfold sdV; rw [e1, if_neg hc]
  rw [e1, e2] at HS
  clear hn hr e1 e2
  go_enter Try.func18, Try.ntmps18
  go_upto_region 1 with (fail)
  generalize (World.alloc _ _) = W1 at HQ ⊢
  obtain ⟨g0, hg0⟩ : ∃ g, w.heap.size = g := ⟨_, rfl⟩
  rw [hg0] at HQ ⊢
  have HG0 := Lib.hid hg0
  clear hg0
  obtain ⟨c0, c1, c2, c3⟩ := HQ.win (.head _)
  go_wp2_with fail
  go_at_call 22
  refine (framed_good L H [] none 0 he rfl (by unfold maxLen; simp) _ (pts_nil _ _)).mono ?_
  rintro e w2 ⟨rfl, hB⟩
  replace HQ := (HQ.on hB).new #[.int .i64 L.1, .int .i64 L.2, .int .i64 H.1, .int .i64 H.2, .int .i64 L.1, .int .i64 L.2, .int .i64 H.1, .int .i64 L.2, .int .i64 H.1, .int .i64 H.2, .int .i64 L.1, .int .i64 H.2] 48
  clear hB c0 c1 c2 c3 he
  have e0 : (chE ps != 0) = true := by simpa using hc
  clear hc
  go_wp2_with fail
  go_at_call 30
  refine (HS.out _ _ HQ).mono ?_
  rintro e w3 ⟨rfl, hB⟩
  have HB := Lib.hid (HQ.on hB).1
  clear hB HQ HS
  go_wp2
  go_ret2
  exact ⟨rfl, HB.out⟩

set_option maxRecDepth 100000 in
set_option maxHeartbeats 4000000 in
theorem Meets_good (L H : Int × Int) (ps : List (Int × Int)) (A : Option Addr) (cap : Nat) (he : wnE L H = 0) (hc : chE ps = 0) (hn : ps.length ≤ maxLen) (w : World) (hr : Pts w w.heap.size A ps) :
    Calls Try.prog 18 #[.agg #[.int .i64 L.1, .int .i64 L.2, .int .i64 H.1, .int .i64 H.2], .slice A ps.length cap] w fun e w' => e = .returned (.tuple #[.bool (metV L H ps), .int .i64 0]) ∧ Below w.heap.size w w' := by
  have HQ := (Hold.refl w).new #[.int .i64 L.1, .int .i64 L.2, .int .i64 H.1, .int .i64 H.2] 25
  have HS := Lib.hid (fun K W (h : Hold w K W) => Side_any ps A cap L hn W (hr.on h.1))
  obtain ⟨hg, hL⟩ := wnE_zero.1 he
  have hgl := gd_iff.2 (gdL_two.1 hg).1
  obtain ⟨ha, hs⟩ := chE_zero.1 hc
  obtain ⟨h128, hgd⟩ := arE_zero.1 ha
  have e1 : sdE ps L = 0 := by unfold sdE; rw [if_neg (by omega), hgl]; rfl
  have e2 : sdV ps L = side ps L := by unfold sdV; rw [if_pos e1, sideW_side hs]
  rw [e1, e2] at HS
  have HBO := Lib.hid (fun K W (h : Hold w K W) => fborder_any L H ps A cap hL hg h128 hgd W (hr.on h.1))
  have HE : Hid (metV L H ps = (decide (0 ≤ side ps L) || rimV L H ps)) := by
    unfold Hid
    rw [Bool.eq_iff_iff, metV_iff, Bool.or_eq_true, decide_eq_true_eq, rimV_iff]
    rfl
  clear hn hr e1 e2 hg hL hgl ha hs h128 hgd hc
  generalize side ps L = s at *
  generalize rimV L H ps = rv at *
  go_enter Try.func18, Try.ntmps18
  go_upto_region 1 with (fail)
  generalize (World.alloc _ _) = W1 at HQ ⊢
  obtain ⟨g0, hg0⟩ : ∃ g, w.heap.size = g := ⟨_, rfl⟩
  rw [hg0] at HQ ⊢
  have HG0 := Lib.hid hg0
  clear hg0
  obtain ⟨c0, c1, c2, c3⟩ := HQ.win (.head _)
  go_wp2_with fail
  go_at_call 22
  refine (framed_good L H [] none 0 he rfl (by unfold maxLen; simp) _ (pts_nil _ _)).mono ?_
  rintro e w2 ⟨rfl, hB⟩
  replace HQ := (HQ.on hB).new #[.int .i64 L.1, .int .i64 L.2, .int .i64 H.1, .int .i64 H.2, .int .i64 L.1, .int .i64 L.2, .int .i64 H.1, .int .i64 L.2, .int .i64 H.1, .int .i64 H.2, .int .i64 L.1, .int .i64 H.2] 48
  clear hB c0 c1 c2 c3 he
  go_wp2_with fail
  go_at_call 30
  refine (HS.out _ _ HQ).mono ?_
  rintro e w3 ⟨rfl, hB⟩
  replace HQ := HQ.on hB
  clear hB HS
  obtain ⟨⟨c0, c1, c2, c3⟩, c4, c5, c6, c7, c8, c9, c10, c11⟩ := HQ.frm (.head _)
  by_cases h0 : 0 ≤ s
  · have HX : Hid (metV L H ps = true) := by unfold Hid; rw [HE.out, decide_eq_true h0]; rfl
    have HB := Lib.hid HQ.1
    clear HQ HE HBO
    go_wp2
    go_ret2
    rw [HX.out]
    exact ⟨rfl, HB.out⟩
  · have HX := HE
    clear HE
    go_wp2_with fail
    go_at_call 31
    refine (HBO.out _ _ HQ).mono ?_
    rintro e w4 ⟨rfl, hB⟩
    have HB := Lib.hid (HQ.on hB).1
    clear hB HQ HBO c0 c1 c2 c3 c4 c5 c6 c7 c8 c9 c10 c11
    go_wp2
    go_ret2
    rw [HX.out]
    exact ⟨rfl, HB.out⟩
theorem Meets_any (L H : Int × Int) (ps : List (Int × Int)) (A : Option Addr) (cap : Nat) (hn : ps.length ≤ maxLen) (w : World) (hr : Pts w w.heap.size A ps) :
    Calls Try.prog 18 #[.agg #[.int .i64 L.1, .int .i64 L.2, .int .i64 H.1, .int .i64 H.2], .slice A ps.length cap] w fun e w' => e = .returned (.tuple #[.bool (meV L H ps), .int .i64 (meE L H ps)]) ∧ Below w.heap.size w w' := by
  unfold meV meE
  by_cases he : wnE L H = 0
  · rw [if_neg (by omega : ¬ wnE L H ≠ 0)]
    by_cases hc : chE ps = 0
    · rw [if_pos hc, hc]; exact Meets_good L H ps A cap he hc hn w hr
    · rw [if_neg hc]; exact Meets_ill L H ps A cap he hc hn w hr
  · rw [if_pos he, if_neg he]; exact Meets_bad L H _ he w
end Go.Proofs.Ytjpjlnijmhjoaaa
