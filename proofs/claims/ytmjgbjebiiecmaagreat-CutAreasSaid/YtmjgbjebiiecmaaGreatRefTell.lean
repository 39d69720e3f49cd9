/- The contracts of the document's own answers: the sign, and which of two is greater. -/
import Derived.Test.YtmjgbjebiiecmaaGreatRefB
namespace Go.Proofs.YtmjgbjebiiecmaaGreat
open Go.RowKit

theorem sign_cases {h l : Int} (wf : Wf h l) : cmp h l 0 0 = if h < 0 then -1 else if h = 0 then (if l = 0 then 0 else 1) else 1 := by
  have w0 : Wf 0 0 := by unfold Wf; omega
  rw [cmp_val wf w0]
  unfold Wf at wf
  have hz : val 0 0 = 0 := rfl
  rw [hz]
  unfold val
  split <;> split <;> (try split) <;> (try split) <;> omega

set_option maxHeartbeats 400000 in
theorem ref_sign (h l : Int) (wf : Wf h l) (w : World) :
    Calls Tryz.prog 116 #[.agg #[.int .i64 h, .int .u64 l]] w fun e w' => e = .returned (.int .i64 (cmp h l 0 0)) ∧ Below w.heap.size w w' := by
  have HS := Lib.hid (sign_cases wf)
  clear wf
  by_cases h1 : h < 0
  · have HG : Hid (cmp h l 0 0 = -1) := by unfold Hid; rw [HS.out, if_pos h1]
    clear HS
    go_enter Tryz.func116, Tryz.ntmps116
    go_wp2
    go_ret
    rw [HG.out]
    exact ⟨rfl, by go_grown⟩
  · by_cases h2 : h = 0
    · subst h2
      by_cases h3 : l = 0
      · subst h3
        have HG : Hid (cmp 0 0 0 0 = 0) := by unfold Hid; rw [HS.out]; rfl
        clear HS
        go_enter Tryz.func116, Tryz.ntmps116
        go_wp2
        go_ret
        rw [HG.out]
        exact ⟨rfl, by go_grown⟩
      · have HG : Hid (cmp 0 l 0 0 = 1) := by unfold Hid; rw [HS.out, if_neg h1, if_pos rfl, if_neg h3]
        clear HS
        have e1 : (l == 0) = false := by simpa using h3
        go_enter Tryz.func116, Tryz.ntmps116
        go_wp2
        go_ret
        rw [HG.out]
        exact ⟨rfl, by go_grown⟩
    · have HG : Hid (cmp h l 0 0 = 1) := by unfold Hid; rw [HS.out, if_neg h1, if_neg h2]
      clear HS
      have e1 : (h == 0) = false := by simpa using h2
      go_enter Tryz.func116, Tryz.ntmps116
      go_wp2
      go_ret
      rw [HG.out]
      exact ⟨rfl, by go_grown⟩

end Go.Proofs.YtmjgbjebiiecmaaGreat
