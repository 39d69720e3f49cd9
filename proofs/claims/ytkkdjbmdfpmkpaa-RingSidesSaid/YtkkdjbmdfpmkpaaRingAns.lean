/- What layer ring's laws share: the given answer. -/
import Derived.Test.YtkkdjbmdfpmkpaaRingC
namespace Go.Proofs.Ytkkdjbmdfpmkpaa
open Go.RowKit

set_option maxHeartbeats 400000 in
theorem ring_answers (w : World) :
    Calls Try.prog 12 #[] w fun e w' => e = .returned (.bool true) ∧ Below w.heap.size w w' := by
  have h := fun cap => Side_any gvR (some ⟨w.heap.size, 0, none⟩) cap (2, 2) (by unfold maxLen; decide) _ (pts_of (heap_alloc_new w (Obj.cells (flatP gvR).toArray 35 (0, 0))) (by simp only [World.size_alloc]; omega))
  rw [gv_sdV, gv_sdE] at h
  have H := Lib.hid h
  have HB := Lib.hid ((Below.refl w.heap.size w).alloc (Nat.le_refl _) (Obj.cells (flatP gvR).toArray 35 (0, 0)))
  clear h
  go_enter Try.func12, Try.ntmps12
  go_wp2_with fail
  go_at_call 15
  refine (H.out _).mono ?_
  rintro e w1 ⟨rfl, hB⟩
  have HK := Lib.hid (HB.out.trans (hB.mono HB.out.size))
  clear hB
  go_wp2
  go_ret
  exact ⟨rfl, HK.out⟩
end Go.Proofs.Ytkkdjbmdfpmkpaa
