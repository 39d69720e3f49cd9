/- What layer window's laws share: the given answer, and what a walk reads. -/
import Derived.Test.YtjpjlnijmhjoaaaRefMets
namespace Go.Proofs.Ytjpjlnijmhjoaaa
open Go.RowKit

theorem win_given : haV (0, 0) (2, 2) (1, 2) = true ∧ frE (0, 0) (2, 2) [(1, 2)] = 0 := by decide +kernel
set_option maxHeartbeats 400000 in
theorem win_answers (w : World) :
    Calls Try.prog 11 #[] w fun e w' => e = .returned (.bool true) ∧ Below w.heap.size w w' := by
  have h := fun W => Has_any (0, 0) (2, 2) (1, 2) W
  rw [win_given.1, win_given.2] at h
  have HH := Lib.hid h
  clear h
  go_enter Try.func11, Try.ntmps11
  go_wp2_with fail
  go_at_call 10
  refine (HH.out _).mono ?_
  rintro e w1 ⟨rfl, hB⟩
  go_wp2
  go_ret
  exact ⟨rfl, hB⟩
theorem meE_bad {L H : Int × Int} {ps : List (Int × Int)} (h : wnE L H ≠ 0) : meE L H ps = wnE L H ∧ meV L H ps = false := by
  have e : meE L H ps = wnE L H := by unfold meE; rw [if_pos h]
  exact ⟨e, by unfold meV; rw [e, if_neg h]⟩
theorem meE_ill {L H : Int × Int} {ps : List (Int × Int)} (h : wnE L H = 0) (hc : chE ps ≠ 0) : meE L H ps = chE ps ∧ meV L H ps = false := by
  have e : meE L H ps = chE ps := by unfold meE; rw [if_neg (by omega)]
  exact ⟨e, by unfold meV; rw [e, if_neg hc]⟩
theorem meE_good {L H : Int × Int} {ps : List (Int × Int)} (h : wnE L H = 0) (hc : chE ps = 0) : meE L H ps = 0 ∧ meV L H ps = metV L H ps := by
  have e : meE L H ps = 0 := by unfold meE; rw [if_neg (by omega), hc]
  exact ⟨e, by unfold meV; rw [if_pos e]⟩
theorem ps_len {n : Nat} (h : n * 16 ≤ 140737488355328) : n ≤ maxLen := by unfold maxLen; omega
section
variable {w W : World} {L H p : Int × Int}
theorem Hold.wp {g0 g1 : Nat} {t0 t1 : TypeId} (h : Hold w [(g1, #[.int .i64 p.1, .int .i64 p.2], t1), (g0, #[.int .i64 L.1, .int .i64 L.2, .int .i64 H.1, .int .i64 H.2], t0)] W) :
    (W.cell? ⟨g0, 0, none⟩ = some (.int .i64 L.1) ∧ W.cell? ⟨g0, 1, none⟩ = some (.int .i64 L.2) ∧ W.cell? ⟨g0, 2, none⟩ = some (.int .i64 H.1) ∧ W.cell? ⟨g0, 3, none⟩ = some (.int .i64 H.2)) ∧ W.cell? ⟨g1, 0, none⟩ = some (.int .i64 p.1) ∧ W.cell? ⟨g1, 1, none⟩ = some (.int .i64 p.2) :=
  ⟨h.win (.tail _ (.head _)), (h.pt (.head _)).1, (h.pt (.head _)).2⟩
end
end Go.Proofs.Ytjpjlnijmhjoaaa
