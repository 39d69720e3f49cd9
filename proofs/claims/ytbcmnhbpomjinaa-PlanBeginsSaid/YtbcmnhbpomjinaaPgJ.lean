/- The program's joined, loose and apart: do stretches meet but at ends of both? -/
import Derived.Test.YtbcmnhbpomjinaaPgI
namespace Go.Proofs.Ytbcmnhbpomjinaa
open Go.RowKit

/-- Whether two edges have an end in common. -/
def joinB (a b : EdT) : Bool := decide (a.1 = b.1 ∨ a.1 = b.2 ∨ a.2 = b.1 ∨ a.2 = b.2)
theorem joinB_iff {a b : EdT} : joinB a b = true ↔ a.1 = b.1 ∨ a.1 = b.2 ∨ a.2 = b.1 ∨ a.2 = b.2 := by unfold joinB; exact decide_eq_true_iff
theorem joinB_not {a b : EdT} (h : ¬ (a.1 = b.1 ∨ a.1 = b.2 ∨ a.2 = b.1 ∨ a.2 = b.2)) : joinB a b = false := by unfold joinB; exact decide_eq_false h
set_option maxRecDepth 100000 in
set_option maxHeartbeats 2000000 in
theorem joined_any (a b : EdT) (w : World) : Calls Try.prog 82 #[.agg #[.int .i64 a.1.1, .int .i64 a.1.2, .int .i64 a.2.1, .int .i64 a.2.2], .agg #[.int .i64 b.1.1, .int .i64 b.1.2, .int .i64 b.2.1, .int .i64 b.2.2]] w fun e' w' => e' = .returned (.bool (joinB a b)) ∧ Below w.heap.size w w' := by
  have HQ := ((Hold.refl w).new #[.int .i64 a.1.1, .int .i64 a.1.2, .int .i64 a.2.1, .int .i64 a.2.2] 60).new' #[.int .i64 b.1.1, .int .i64 b.1.2, .int .i64 b.2.1, .int .i64 b.2.2] 60 (n := w.heap.size + 1) (by simp)
  go_enter Try.func82, Try.ntmps82
  go_upto_region 1 with (fail)
  generalize (World.alloc _ _) = W1 at HQ ⊢
  generalize w.heap.size + 1 = g1 at HQ ⊢
  obtain ⟨g0, hg0⟩ : ∃ g, w.heap.size = g := ⟨_, rfl⟩
  have HK := Lib.hid HQ.1
  rw [hg0] at HQ ⊢
  clear hg0
  obtain ⟨c0, c1, c2, c3⟩ := HQ.q4 (List.mem_cons_of_mem _ List.mem_cons_self)
  obtain ⟨k0, k1, k2, k3⟩ := HQ.q4 List.mem_cons_self
  clear HQ
  by_cases h0 : a.1.1 = b.1.1
  · by_cases h1 : a.1.2 = b.1.2
    · skip
      first
      | (exfalso; omega)
      | (have HG : Hid (joinB a b = true) := joinB_iff.2 (.inl (Prod.ext h0 h1)); have e0 : (a.1.1 == b.1.1) = true := (by simpa using h0); have e1 : (a.1.2 == b.1.2) = true := (by simpa using h1); clear h0 h1; go_wp2; go_ret; exact ⟨by rw [HG.out]; rfl, HK.out⟩)
    · skip
      by_cases h2 : a.1.1 = b.2.1
      · by_cases h3 : a.1.2 = b.2.2
        · skip
          first
          | (exfalso; omega)
          | (have HG : Hid (joinB a b = true) := joinB_iff.2 (.inr (.inl (Prod.ext h2 h3))); have e0 : (a.1.1 == b.1.1) = true := (by simpa using h0); have e1 : (a.1.2 == b.1.2) = false := (by simpa using h1); have e2 : (a.1.1 == b.2.1) = true := (by simpa using h2); have e3 : (a.1.2 == b.2.2) = true := (by simpa using h3); clear h0 h1 h2 h3; go_wp2; go_ret; exact ⟨by rw [HG.out]; rfl, HK.out⟩)
        · skip
          by_cases h4 : a.2.1 = b.1.1
          · by_cases h5 : a.2.2 = b.1.2
            · skip
              first
              | (exfalso; omega)
              | (have HG : Hid (joinB a b = true) := joinB_iff.2 (.inr (.inr (.inl (Prod.ext h4 h5)))); have e0 : (a.1.1 == b.1.1) = true := (by simpa using h0); have e1 : (a.1.2 == b.1.2) = false := (by simpa using h1); have e2 : (a.1.1 == b.2.1) = true := (by simpa using h2); have e3 : (a.1.2 == b.2.2) = false := (by simpa using h3); have e4 : (a.2.1 == b.1.1) = true := (by simpa using h4); have e5 : (a.2.2 == b.1.2) = true := (by simpa using h5); clear h0 h1 h2 h3 h4 h5; go_wp2; go_ret; exact ⟨by rw [HG.out]; rfl, HK.out⟩)
            · skip
              by_cases h6 : a.2.1 = b.2.1
              · by_cases h7 : a.2.2 = b.2.2
                · skip
                  first
                  | (exfalso; omega)
                  | (have HG : Hid (joinB a b = true) := joinB_iff.2 (.inr (.inr (.inr (Prod.ext h6 h7)))); have e0 : (a.1.1 == b.1.1) = true := (by simpa using h0); have e1 : (a.1.2 == b.1.2) = false := (by simpa using h1); have e2 : (a.1.1 == b.2.1) = true := (by simpa using h2); have e3 : (a.1.2 == b.2.2) = false := (by simpa using h3); have e4 : (a.2.1 == b.1.1) = true := (by simpa using h4); have e5 : (a.2.2 == b.1.2) = false := (by simpa using h5); have e6 : (a.2.1 == b.2.1) = true := (by simpa using h6); have e7 : (a.2.2 == b.2.2) = true := (by simpa using h7); clear h0 h1 h2 h3 h4 h5 h6 h7; go_wp2; go_ret; exact ⟨by rw [HG.out]; rfl, HK.out⟩)
                · skip
                  first
                  | (exfalso; omega)
                  | (have HG : Hid (joinB a b = false) := joinB_not (fun h => by rw [Prod.ext_iff, Prod.ext_iff, Prod.ext_iff, Prod.ext_iff] at h; omega); have e0 : (a.1.1 == b.1.1) = true := (by simpa using h0); have e1 : (a.1.2 == b.1.2) = false := (by simpa using h1); have e2 : (a.1.1 == b.2.1) = true := (by simpa using h2); have e3 : (a.1.2 == b.2.2) = false := (by simpa using h3); have e4 : (a.2.1 == b.1.1) = true := (by simpa using h4); have e5 : (a.2.2 == b.1.2) = false := (by simpa using h5); have e6 : (a.2.1 == b.2.1) = true := (by simpa using h6); have e7 : (a.2.2 == b.2.2) = false := (by simpa using h7); clear h0 h1 h2 h3 h4 h5 h6 h7; go_wp2; go_ret; exact ⟨by rw [HG.out]; rfl, HK.out⟩)
              · skip
                first
                | (exfalso; omega)
                | (have HG : Hid (joinB a b = false) := joinB_not (fun h => by rw [Prod.ext_iff, Prod.ext_iff, Prod.ext_iff, Prod.ext_iff] at h; omega); have e0 : (a.1.1 == b.1.1) = true := (by simpa using h0); have e1 : (a.1.2 == b.1.2) = false := (by simpa using h1); have e2 : (a.1.1 == b.2.1) = true := (by simpa using h2); have e3 : (a.1.2 == b.2.2) = false := (by simpa using h3); have e4 : (a.2.1 == b.1.1) = true := (by simpa using h4); have e5 : (a.2.2 == b.1.2) = false := (by simpa using h5); have e6 : (a.2.1 == b.2.1) = false := (by simpa using h6); clear h0 h1 h2 h3 h4 h5 h6; go_wp2; go_ret; exact ⟨by rw [HG.out]; rfl, HK.out⟩)
          · skip
            by_cases h5 : a.2.1 = b.2.1
            · by_cases h6 : a.2.2 = b.2.2
              · skip
                first
                | (exfalso; omega)
                | (have HG : Hid (joinB a b = true) := joinB_iff.2 (.inr (.inr (.inr (Prod.ext h5 h6)))); have e0 : (a.1.1 == b.1.1) = true := (by simpa using h0); have e1 : (a.1.2 == b.1.2) = false := (by simpa using h1); have e2 : (a.1.1 == b.2.1) = true := (by simpa using h2); have e3 : (a.1.2 == b.2.2) = false := (by simpa using h3); have e4 : (a.2.1 == b.1.1) = false := (by simpa using h4); have e5 : (a.2.1 == b.2.1) = true := (by simpa using h5); have e6 : (a.2.2 == b.2.2) = true := (by simpa using h6); clear h0 h1 h2 h3 h4 h5 h6; go_wp2; go_ret; exact ⟨by rw [HG.out]; rfl, HK.out⟩)
              · skip
                first
                | (exfalso; omega)
                | (have HG : Hid (joinB a b = false) := joinB_not (fun h => by rw [Prod.ext_iff, Prod.ext_iff, Prod.ext_iff, Prod.ext_iff] at h; omega); have e0 : (a.1.1 == b.1.1) = true := (by simpa using h0); have e1 : (a.1.2 == b.1.2) = false := (by simpa using h1); have e2 : (a.1.1 == b.2.1) = true := (by simpa using h2); have e3 : (a.1.2 == b.2.2) = false := (by simpa using h3); have e4 : (a.2.1 == b.1.1) = false := (by simpa using h4); have e5 : (a.2.1 == b.2.1) = true := (by simpa using h5); have e6 : (a.2.2 == b.2.2) = false := (by simpa using h6); clear h0 h1 h2 h3 h4 h5 h6; go_wp2; go_ret; exact ⟨by rw [HG.out]; rfl, HK.out⟩)
            · skip
              first
              | (exfalso; omega)
              | (have HG : Hid (joinB a b = false) := joinB_not (fun h => by rw [Prod.ext_iff, Prod.ext_iff, Prod.ext_iff, Prod.ext_iff] at h; omega); have e0 : (a.1.1 == b.1.1) = true := (by simpa using h0); have e1 : (a.1.2 == b.1.2) = false := (by simpa using h1); have e2 : (a.1.1 == b.2.1) = true := (by simpa using h2); have e3 : (a.1.2 == b.2.2) = false := (by simpa using h3); have e4 : (a.2.1 == b.1.1) = false := (by simpa using h4); have e5 : (a.2.1 == b.2.1) = false := (by simpa using h5); clear h0 h1 h2 h3 h4 h5; go_wp2; go_ret; exact ⟨by rw [HG.out]; rfl, HK.out⟩)
      · skip
        by_cases h3 : a.2.1 = b.1.1
        · by_cases h4 : a.2.2 = b.1.2
          · skip
            first
            | (exfalso; omega)
            | (have HG : Hid (joinB a b = true) := joinB_iff.2 (.inr (.inr (.inl (Prod.ext h3 h4)))); have e0 : (a.1.1 == b.1.1) = true := (by simpa using h0); have e1 : (a.1.2 == b.1.2) = false := (by simpa using h1); have e2 : (a.1.1 == b.2.1) = false := (by simpa using h2); have e3 : (a.2.1 == b.1.1) = true := (by simpa using h3); have e4 : (a.2.2 == b.1.2) = true := (by simpa using h4); clear h0 h1 h2 h3 h4; go_wp2; go_ret; exact ⟨by rw [HG.out]; rfl, HK.out⟩)
          · skip
            by_cases h5 : a.2.1 = b.2.1
            · by_cases h6 : a.2.2 = b.2.2
              · skip
                first
                | (exfalso; omega)
                | (have HG : Hid (joinB a b = true) := joinB_iff.2 (.inr (.inr (.inr (Prod.ext h5 h6)))); have e0 : (a.1.1 == b.1.1) = true := (by simpa using h0); have e1 : (a.1.2 == b.1.2) = false := (by simpa using h1); have e2 : (a.1.1 == b.2.1) = false := (by simpa using h2); have e3 : (a.2.1 == b.1.1) = true := (by simpa using h3); have e4 : (a.2.2 == b.1.2) = false := (by simpa using h4); have e5 : (a.2.1 == b.2.1) = true := (by simpa using h5); have e6 : (a.2.2 == b.2.2) = true := (by simpa using h6); clear h0 h1 h2 h3 h4 h5 h6; go_wp2; go_ret; exact ⟨by rw [HG.out]; rfl, HK.out⟩)
              · skip
                first
                | (exfalso; omega)
                | (have HG : Hid (joinB a b = false) := joinB_not (fun h => by rw [Prod.ext_iff, Prod.ext_iff, Prod.ext_iff, Prod.ext_iff] at h; omega); have e0 : (a.1.1 == b.1.1) = true := (by simpa using h0); have e1 : (a.1.2 == b.1.2) = false := (by simpa using h1); have e2 : (a.1.1 == b.2.1) = false := (by simpa using h2); have e3 : (a.2.1 == b.1.1) = true := (by simpa using h3); have e4 : (a.2.2 == b.1.2) = false := (by simpa using h4); have e5 : (a.2.1 == b.2.1) = true := (by simpa using h5); have e6 : (a.2.2 == b.2.2) = false := (by simpa using h6); clear h0 h1 h2 h3 h4 h5 h6; go_wp2; go_ret; exact ⟨by rw [HG.out]; rfl, HK.out⟩)
            · skip
              first
              | (exfalso; omega)
              | (have HG : Hid (joinB a b = false) := joinB_not (fun h => by rw [Prod.ext_iff, Prod.ext_iff, Prod.ext_iff, Prod.ext_iff] at h; omega); have e0 : (a.1.1 == b.1.1) = true := (by simpa using h0); have e1 : (a.1.2 == b.1.2) = false := (by simpa using h1); have e2 : (a.1.1 == b.2.1) = false := (by simpa using h2); have e3 : (a.2.1 == b.1.1) = true := (by simpa using h3); have e4 : (a.2.2 == b.1.2) = false := (by simpa using h4); have e5 : (a.2.1 == b.2.1) = false := (by simpa using h5); clear h0 h1 h2 h3 h4 h5; go_wp2; go_ret; exact ⟨by rw [HG.out]; rfl, HK.out⟩)
        · skip
          by_cases h4 : a.2.1 = b.2.1
          · by_cases h5 : a.2.2 = b.2.2
            · skip
              first
              | (exfalso; omega)
              | (have HG : Hid (joinB a b = true) := joinB_iff.2 (.inr (.inr (.inr (Prod.ext h4 h5)))); have e0 : (a.1.1 == b.1.1) = true := (by simpa using h0); have e1 : (a.1.2 == b.1.2) = false := (by simpa using h1); have e2 : (a.1.1 == b.2.1) = false := (by simpa using h2); have e3 : (a.2.1 == b.1.1) = false := (by simpa using h3); have e4 : (a.2.1 == b.2.1) = true := (by simpa using h4); have e5 : (a.2.2 == b.2.2) = true := (by simpa using h5); clear h0 h1 h2 h3 h4 h5; go_wp2; go_ret; exact ⟨by rw [HG.out]; rfl, HK.out⟩)
            · skip
              first
              | (exfalso; omega)
              | (have HG : Hid (joinB a b = false) := joinB_not (fun h => by rw [Prod.ext_iff, Prod.ext_iff, Prod.ext_iff, Prod.ext_iff] at h; omega); have e0 : (a.1.1 == b.1.1) = true := (by simpa using h0); have e1 : (a.1.2 == b.1.2) = false := (by simpa using h1); have e2 : (a.1.1 == b.2.1) = false := (by simpa using h2); have e3 : (a.2.1 == b.1.1) = false := (by simpa using h3); have e4 : (a.2.1 == b.2.1) = true := (by simpa using h4); have e5 : (a.2.2 == b.2.2) = false := (by simpa using h5); clear h0 h1 h2 h3 h4 h5; go_wp2; go_ret; exact ⟨by rw [HG.out]; rfl, HK.out⟩)
          · skip
            first
            | (exfalso; omega)
            | (have HG : Hid (joinB a b = false) := joinB_not (fun h => by rw [Prod.ext_iff, Prod.ext_iff, Prod.ext_iff, Prod.ext_iff] at h; omega); have e0 : (a.1.1 == b.1.1) = true := (by simpa using h0); have e1 : (a.1.2 == b.1.2) = false := (by simpa using h1); have e2 : (a.1.1 == b.2.1) = false := (by simpa using h2); have e3 : (a.2.1 == b.1.1) = false := (by simpa using h3); have e4 : (a.2.1 == b.2.1) = false := (by simpa using h4); clear h0 h1 h2 h3 h4; go_wp2; go_ret; exact ⟨by rw [HG.out]; rfl, HK.out⟩)
  · skip
    by_cases h1 : a.1.1 = b.2.1
    · by_cases h2 : a.1.2 = b.2.2
      · skip
        first
        | (exfalso; omega)
        | (have HG : Hid (joinB a b = true) := joinB_iff.2 (.inr (.inl (Prod.ext h1 h2))); have e0 : (a.1.1 == b.1.1) = false := (by simpa using h0); have e1 : (a.1.1 == b.2.1) = true := (by simpa using h1); have e2 : (a.1.2 == b.2.2) = true := (by simpa using h2); clear h0 h1 h2; go_wp2; go_ret; exact ⟨by rw [HG.out]; rfl, HK.out⟩)
      · skip
        by_cases h3 : a.2.1 = b.1.1
        · by_cases h4 : a.2.2 = b.1.2
          · skip
            first
            | (exfalso; omega)
            | (have HG : Hid (joinB a b = true) := joinB_iff.2 (.inr (.inr (.inl (Prod.ext h3 h4)))); have e0 : (a.1.1 == b.1.1) = false := (by simpa using h0); have e1 : (a.1.1 == b.2.1) = true := (by simpa using h1); have e2 : (a.1.2 == b.2.2) = false := (by simpa using h2); have e3 : (a.2.1 == b.1.1) = true := (by simpa using h3); have e4 : (a.2.2 == b.1.2) = true := (by simpa using h4); clear h0 h1 h2 h3 h4; go_wp2; go_ret; exact ⟨by rw [HG.out]; rfl, HK.out⟩)
          · skip
            by_cases h5 : a.2.1 = b.2.1
            · by_cases h6 : a.2.2 = b.2.2
              · skip
                first
                | (exfalso; omega)
                | (have HG : Hid (joinB a b = true) := joinB_iff.2 (.inr (.inr (.inr (Prod.ext h5 h6)))); have e0 : (a.1.1 == b.1.1) = false := (by simpa using h0); have e1 : (a.1.1 == b.2.1) = true := (by simpa using h1); have e2 : (a.1.2 == b.2.2) = false := (by simpa using h2); have e3 : (a.2.1 == b.1.1) = true := (by simpa using h3); have e4 : (a.2.2 == b.1.2) = false := (by simpa using h4); have e5 : (a.2.1 == b.2.1) = true := (by simpa using h5); have e6 : (a.2.2 == b.2.2) = true := (by simpa using h6); clear h0 h1 h2 h3 h4 h5 h6; go_wp2; go_ret; exact ⟨by rw [HG.out]; rfl, HK.out⟩)
              · skip
                first
                | (exfalso; omega)
                | (have HG : Hid (joinB a b = false) := joinB_not (fun h => by rw [Prod.ext_iff, Prod.ext_iff, Prod.ext_iff, Prod.ext_iff] at h; omega); have e0 : (a.1.1 == b.1.1) = false := (by simpa using h0); have e1 : (a.1.1 == b.2.1) = true := (by simpa using h1); have e2 : (a.1.2 == b.2.2) = false := (by simpa using h2); have e3 : (a.2.1 == b.1.1) = true := (by simpa using h3); have e4 : (a.2.2 == b.1.2) = false := (by simpa using h4); have e5 : (a.2.1 == b.2.1) = true := (by simpa using h5); have e6 : (a.2.2 == b.2.2) = false := (by simpa using h6); clear h0 h1 h2 h3 h4 h5 h6; go_wp2; go_ret; exact ⟨by rw [HG.out]; rfl, HK.out⟩)
            · skip
              first
              | (exfalso; omega)
              | (have HG : Hid (joinB a b = false) := joinB_not (fun h => by rw [Prod.ext_iff, Prod.ext_iff, Prod.ext_iff, Prod.ext_iff] at h; omega); have e0 : (a.1.1 == b.1.1) = false := (by simpa using h0); have e1 : (a.1.1 == b.2.1) = true := (by simpa using h1); have e2 : (a.1.2 == b.2.2) = false := (by simpa using h2); have e3 : (a.2.1 == b.1.1) = true := (by simpa using h3); have e4 : (a.2.2 == b.1.2) = false := (by simpa using h4); have e5 : (a.2.1 == b.2.1) = false := (by simpa using h5); clear h0 h1 h2 h3 h4 h5; go_wp2; go_ret; exact ⟨by rw [HG.out]; rfl, HK.out⟩)
        · skip
          by_cases h4 : a.2.1 = b.2.1
          · by_cases h5 : a.2.2 = b.2.2
            · skip
              first
              | (exfalso; omega)
              | (have HG : Hid (joinB a b = true) := joinB_iff.2 (.inr (.inr (.inr (Prod.ext h4 h5)))); have e0 : (a.1.1 == b.1.1) = false := (by simpa using h0); have e1 : (a.1.1 == b.2.1) = true := (by simpa using h1); have e2 : (a.1.2 == b.2.2) = false := (by simpa using h2); have e3 : (a.2.1 == b.1.1) = false := (by simpa using h3); have e4 : (a.2.1 == b.2.1) = true := (by simpa using h4); have e5 : (a.2.2 == b.2.2) = true := (by simpa using h5); clear h0 h1 h2 h3 h4 h5; go_wp2; go_ret; exact ⟨by rw [HG.out]; rfl, HK.out⟩)
            · skip
              first
              | (exfalso; omega)
              | (have HG : Hid (joinB a b = false) := joinB_not (fun h => by rw [Prod.ext_iff, Prod.ext_iff, Prod.ext_iff, Prod.ext_iff] at h; omega); have e0 : (a.1.1 == b.1.1) = false := (by simpa using h0); have e1 : (a.1.1 == b.2.1) = true := (by simpa using h1); have e2 : (a.1.2 == b.2.2) = false := (by simpa using h2); have e3 : (a.2.1 == b.1.1) = false := (by simpa using h3); have e4 : (a.2.1 == b.2.1) = true := (by simpa using h4); have e5 : (a.2.2 == b.2.2) = false := (by simpa using h5); clear h0 h1 h2 h3 h4 h5; go_wp2; go_ret; exact ⟨by rw [HG.out]; rfl, HK.out⟩)
          · skip
            first
            | (exfalso; omega)
            | (have HG : Hid (joinB a b = false) := joinB_not (fun h => by rw [Prod.ext_iff, Prod.ext_iff, Prod.ext_iff, Prod.ext_iff] at h; omega); have e0 : (a.1.1 == b.1.1) = false := (by simpa using h0); have e1 : (a.1.1 == b.2.1) = true := (by simpa using h1); have e2 : (a.1.2 == b.2.2) = false := (by simpa using h2); have e3 : (a.2.1 == b.1.1) = false := (by simpa using h3); have e4 : (a.2.1 == b.2.1) = false := (by simpa using h4); clear h0 h1 h2 h3 h4; go_wp2; go_ret; exact ⟨by rw [HG.out]; rfl, HK.out⟩)
    · skip
      by_cases h2 : a.2.1 = b.1.1
      · by_cases h3 : a.2.2 = b.1.2
        · skip
          first
          | (exfalso; omega)
          | (have HG : Hid (joinB a b = true) := joinB_iff.2 (.inr (.inr (.inl (Prod.ext h2 h3)))); have e0 : (a.1.1 == b.1.1) = false := (by simpa using h0); have e1 : (a.1.1 == b.2.1) = false := (by simpa using h1); have e2 : (a.2.1 == b.1.1) = true := (by simpa using h2); have e3 : (a.2.2 == b.1.2) = true := (by simpa using h3); clear h0 h1 h2 h3; go_wp2; go_ret; exact ⟨by rw [HG.out]; rfl, HK.out⟩)
        · skip
          by_cases h4 : a.2.1 = b.2.1
          · by_cases h5 : a.2.2 = b.2.2
            · skip
              first
              | (exfalso; omega)
              | (have HG : Hid (joinB a b = true) := joinB_iff.2 (.inr (.inr (.inr (Prod.ext h4 h5)))); have e0 : (a.1.1 == b.1.1) = false := (by simpa using h0); have e1 : (a.1.1 == b.2.1) = false := (by simpa using h1); have e2 : (a.2.1 == b.1.1) = true := (by simpa using h2); have e3 : (a.2.2 == b.1.2) = false := (by simpa using h3); have e4 : (a.2.1 == b.2.1) = true := (by simpa using h4); have e5 : (a.2.2 == b.2.2) = true := (by simpa using h5); clear h0 h1 h2 h3 h4 h5; go_wp2; go_ret; exact ⟨by rw [HG.out]; rfl, HK.out⟩)
            · skip
              first
              | (exfalso; omega)
              | (have HG : Hid (joinB a b = false) := joinB_not (fun h => by rw [Prod.ext_iff, Prod.ext_iff, Prod.ext_iff, Prod.ext_iff] at h; omega); have e0 : (a.1.1 == b.1.1) = false := (by simpa using h0); have e1 : (a.1.1 == b.2.1) = false := (by simpa using h1); have e2 : (a.2.1 == b.1.1) = true := (by simpa using h2); have e3 : (a.2.2 == b.1.2) = false := (by simpa using h3); have e4 : (a.2.1 == b.2.1) = true := (by simpa using h4); have e5 : (a.2.2 == b.2.2) = false := (by simpa using h5); clear h0 h1 h2 h3 h4 h5; go_wp2; go_ret; exact ⟨by rw [HG.out]; rfl, HK.out⟩)
          · skip
            first
            | (exfalso; omega)
            | (have HG : Hid (joinB a b = false) := joinB_not (fun h => by rw [Prod.ext_iff, Prod.ext_iff, Prod.ext_iff, Prod.ext_iff] at h; omega); have e0 : (a.1.1 == b.1.1) = false := (by simpa using h0); have e1 : (a.1.1 == b.2.1) = false := (by simpa using h1); have e2 : (a.2.1 == b.1.1) = true := (by simpa using h2); have e3 : (a.2.2 == b.1.2) = false := (by simpa using h3); have e4 : (a.2.1 == b.2.1) = false := (by simpa using h4); clear h0 h1 h2 h3 h4; go_wp2; go_ret; exact ⟨by rw [HG.out]; rfl, HK.out⟩)
      · skip
        by_cases h3 : a.2.1 = b.2.1
        · by_cases h4 : a.2.2 = b.2.2
          · skip
            first
            | (exfalso; omega)
            | (have HG : Hid (joinB a b = true) := joinB_iff.2 (.inr (.inr (.inr (Prod.ext h3 h4)))); have e0 : (a.1.1 == b.1.1) = false := (by simpa using h0); have e1 : (a.1.1 == b.2.1) = false := (by simpa using h1); have e2 : (a.2.1 == b.1.1) = false := (by simpa using h2); have e3 : (a.2.1 == b.2.1) = true := (by simpa using h3); have e4 : (a.2.2 == b.2.2) = true := (by simpa using h4); clear h0 h1 h2 h3 h4; go_wp2; go_ret; exact ⟨by rw [HG.out]; rfl, HK.out⟩)
          · skip
            first
            | (exfalso; omega)
            | (have HG : Hid (joinB a b = false) := joinB_not (fun h => by rw [Prod.ext_iff, Prod.ext_iff, Prod.ext_iff, Prod.ext_iff] at h; omega); have e0 : (a.1.1 == b.1.1) = false := (by simpa using h0); have e1 : (a.1.1 == b.2.1) = false := (by simpa using h1); have e2 : (a.2.1 == b.1.1) = false := (by simpa using h2); have e3 : (a.2.1 == b.2.1) = true := (by simpa using h3); have e4 : (a.2.2 == b.2.2) = false := (by simpa using h4); clear h0 h1 h2 h3 h4; go_wp2; go_ret; exact ⟨by rw [HG.out]; rfl, HK.out⟩)
        · skip
          first
          | (exfalso; omega)
          | (have HG : Hid (joinB a b = false) := joinB_not (fun h => by rw [Prod.ext_iff, Prod.ext_iff, Prod.ext_iff, Prod.ext_iff] at h; omega); have e0 : (a.1.1 == b.1.1) = false := (by simpa using h0); have e1 : (a.1.1 == b.2.1) = false := (by simpa using h1); have e2 : (a.2.1 == b.1.1) = false := (by simpa using h2); have e3 : (a.2.1 == b.2.1) = false := (by simpa using h3); clear h0 h1 h2 h3; go_wp2; go_ret; exact ⟨by rw [HG.out]; rfl, HK.out⟩)
end Go.Proofs.Ytbcmnhbpomjinaa
