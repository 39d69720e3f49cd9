/- The contracts of the document's own answers: the sign, and which of two is greater. -/
import Derived.Test.YtbcmnhbpomjinaaGreatRefB
namespace Go.Proofs.YtbcmnhbpomjinaaGreat
open Go.RowKit

theorem sign_cases {h l : Int} (wf : Wf h l) : cmp h l 0 0 = if h < 0 then -1 else if h = 0 then (if l = 0 then 0 else 1) else 1 := by
  have w0 : Wf 0 0 := by unfold Wf; omega
  rw [cmp_val wf w0]
  unfold Wf at wf
  have hz : val 0 0 = 0 := rfl
  rw [hz]
  unfold val
  split <;> split <;> (try split) <;> (try split) <;> omega

set_option maxHeartbeats 400000 in
theorem ref_sign (h l : Int) (wf : Wf h l) (w : World) :
    Calls Tryz.prog 125 #[.agg #[.int .i64 h, .int .u64 l]] w fun e w' => e = .returned (.int .i64 (cmp h l 0 0)) ∧ Below w.heap.size w w' := by
  have HS := Lib.hid (sign_cases wf)
  clear wf
  by_cases h1 : h < 0
  · have HG : Hid (cmp h l 0 0 = -1) := by unfold Hid; rw [HS.out, if_pos h1]
    clear HS
    go_enter Tryz.func125, Tryz.ntmps125
    go_wp2
    go_ret
    rw [HG.out]
    exact ⟨rfl, by go_grown⟩
  · by_cases h2 : h = 0
    · subst h2
      by_cases h3 : l = 0
      · subst h3
        have HG : Hid (cmp 0 0 0 0 = 0) := by unfold Hid; rw [HS.out]; rfl
        clear HS
        go_enter Tryz.func125, Tryz.ntmps125
        go_wp2
        go_ret
        rw [HG.out]
        exact ⟨rfl, by go_grown⟩
      · have HG : Hid (cmp 0 l 0 0 = 1) := by unfold Hid; rw [HS.out, if_neg h1, if_pos rfl, if_neg h3]
        clear HS
        have e1 : (l == 0) = false := by simpa using h3
        go_enter Tryz.func125, Tryz.ntmps125
        go_wp2
        go_ret
        rw [HG.out]
        exact ⟨rfl, by go_grown⟩
    · have HG : Hid (cmp h l 0 0 = 1) := by unfold Hid; rw [HS.out, if_neg h1, if_neg h2]
      clear HS
      have e1 : (h == 0) = false := by simpa using h2
      go_enter Tryz.func125, Tryz.ntmps125
      go_wp2
      go_ret
      rw [HG.out]
      exact ⟨rfl, by go_grown⟩

set_option maxHeartbeats 800000 in
theorem ref_compare (h l h' l' : Int) (w : World) :
    Calls Tryz.prog 59 #[.agg #[.int .i64 h, .int .u64 l], .agg #[.int .i64 h', .int .u64 l']] w fun e w' => e = .returned (.int .i64 (cmp h l h' l')) ∧ Below w.heap.size w w' := by
  have HF := Lib.hid (cmp_of h l h' l')
  by_cases h1 : h < h'
  · have d1 : decide (h < h') = true := by simpa using h1
    have HG : Hid (cmp h l h' l' = -1) := by
      unfold Hid; rw [HF.out, if_neg (show ¬ (h = h' ∧ l = l') by omega)]; unfold blw; rw [if_neg (show ¬ h = h' by omega), d1]; rfl
    clear HF h1
    go_enter Tryz.func59, Tryz.ntmps59
    go_wp2
    go_ret
    rw [HG.out]
    exact ⟨rfl, by go_grown⟩
  · have d1 : decide (h < h') = false := by simpa using h1
    by_cases h2 : h = h'
    · subst h2
      have d2 : (h == h) = true := by simp
      by_cases h3 : l < l'
      · have d3 : decide (l < l') = true := by simpa using h3
        have HG : Hid (cmp h l h l' = -1) := by
          unfold Hid; rw [HF.out, if_neg (by omega)]; unfold blw; rw [if_pos rfl, d3]; rfl
        clear HF h1 h3
        go_enter Tryz.func59, Tryz.ntmps59
        go_wp2
        go_ret
        rw [HG.out]
        exact ⟨rfl, by go_grown⟩
      · have d3 : decide (l < l') = false := by simpa using h3
        by_cases h4 : l = l'
        · subst h4
          have d4 : (l == l) = true := by simp
          have HG : Hid (cmp h l h l = 0) := by unfold Hid; rw [HF.out, if_pos ⟨rfl, rfl⟩]
          clear HF h1 h3
          go_enter Tryz.func59, Tryz.ntmps59
          go_wp2
          go_ret
          rw [HG.out]
          exact ⟨rfl, by go_grown⟩
        · have d4 : (l == l') = false := by simpa using h4
          have HG : Hid (cmp h l h l' = 1) := by
            unfold Hid; rw [HF.out, if_neg (by omega)]; unfold blw; rw [if_pos rfl, d3]; rfl
          clear HF h1 h3 h4
          go_enter Tryz.func59, Tryz.ntmps59
          go_wp2
          go_ret
          rw [HG.out]
          exact ⟨rfl, by go_grown⟩
    · have d2 : (h == h') = false := by simpa using h2
      have HG : Hid (cmp h l h' l' = 1) := by
        unfold Hid; rw [HF.out, if_neg (by omega)]; unfold blw; rw [if_neg h2, d1]; rfl
      clear HF h1 h2
      go_enter Tryz.func59, Tryz.ntmps59
      go_wp2
      go_ret
      rw [HG.out]
      exact ⟨rfl, by go_grown⟩
end Go.Proofs.YtbcmnhbpomjinaaGreat
