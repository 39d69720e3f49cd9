/- The document's own answers on windows: WindowOK, Has, Cuts, Meets. -/
import Derived.Test.YtfihddpidaidiaaWinA
import Derived.Test.YtfihddpidaidiaaPlane
import Derived.Test.YtfihddpidaidiaaRefSide
import Derived.Test.YtfihddpidaidiaaRefCheck
namespace Go.Proofs.Ytfihddpidaidiaa
open Go.RowKit

set_option maxRecDepth 100000 in
set_option maxHeartbeats 2000000 in
theorem ref_has (L H p : Int × Int) (w : World) :
    Calls Try.prog 21 #[.agg #[.int .i64 L.1, .int .i64 L.2, .int .i64 H.1, .int .i64 H.2], .agg #[.int .i64 p.1, .int .i64 p.2]] w fun e w' => e = .returned (.bool (hasB L H p)) ∧ Below w.heap.size w w' := by
  by_cases h1 : L.1 ≤ p.1
  · by_cases h2 : p.1 ≤ H.1
    · by_cases h3 : L.2 ≤ p.2
      · by_cases h4 : p.2 ≤ H.2
        · have HG : Hid (hasB L H p = true) := by unfold Hid hasB; simp [h1, h2, h3, h4]
          go_enter Try.func21, Try.ntmps21
          go_wp2
          go_ret
          rw [HG.out]
          exact ⟨rfl, by go_grown⟩
        · have HG : Hid (hasB L H p = false) := by unfold Hid hasB; simp [h4]
          go_enter Try.func21, Try.ntmps21
          go_wp2
          go_ret
          rw [HG.out]
          exact ⟨rfl, by go_grown⟩
      · have HG : Hid (hasB L H p = false) := by unfold Hid hasB; simp [h3]
        go_enter Try.func21, Try.ntmps21
        go_wp2
        go_ret
        rw [HG.out]
        exact ⟨rfl, by go_grown⟩
    · have HG : Hid (hasB L H p = false) := by unfold Hid hasB; simp [h2]
      go_enter Try.func21, Try.ntmps21
      go_wp2
      go_ret
      rw [HG.out]
      exact ⟨rfl, by go_grown⟩
  · have HG : Hid (hasB L H p = false) := by unfold Hid hasB; simp [h1]
    go_enter Try.func21, Try.ntmps21
    go_wp2
    go_ret
    rw [HG.out]
    exact ⟨rfl, by go_grown⟩

set_option maxRecDepth 100000 in
set_option maxHeartbeats 2000000 in
theorem ref_windowOK (L H : Int × Int) (w : World) :
    Calls Try.prog 14 #[.agg #[.int .i64 L.1, .int .i64 L.2, .int .i64 H.1, .int .i64 H.2]] w fun e w' => e = .returned (.int .i64 (wnE L H)) ∧ Below w.heap.size w w' := by
  have HQ := (Hold.refl w).new #[.int .i64 L.1, .int .i64 L.2, .int .i64 H.1, .int .i64 H.2] 34
  have HE : Hid (wnE L H = if gdL [L, H] = true then (if H.1 < L.1 ∨ H.2 < L.2 then 1 else 0) else 3) := rfl
  go_enter Try.func14, Try.ntmps14
  go_upto_region 1 with (fail)
  generalize (World.alloc _ _) = W1 at HQ ⊢
  obtain ⟨g0, hg0⟩ : ∃ g, w.heap.size = g := ⟨_, rfl⟩
  rw [hg0] at HQ ⊢
  have HG0 := Lib.hid hg0
  clear hg0
  obtain ⟨c0, c1, c2, c3⟩ := HQ.win (.head _)
  go_wp2_with fail
  go_at_call 10
  refine (ref_good_two L H _ _ _).mono ?_
  rintro e w1 ⟨rfl, hB⟩
  replace HQ := (HQ.alloc _).on (hB.mono (by simp only [World.size_alloc]; omega))
  clear hB c0 c1 c2 c3
  cases hg : gdL [L, H]
  · rw [hg] at HE
    have HB := Lib.hid HQ.1
    clear HQ hg
    go_wp2
    go_ret
    rw [HE.out]
    exact ⟨rfl, HB.out⟩
  · rw [hg, if_pos rfl] at HE
    obtain ⟨c0, c1, c2, c3⟩ := HQ.win (.head _)
    have HB := Lib.hid HQ.1
    clear HQ hg
    by_cases h1 : H.1 < L.1
    · rw [if_pos (.inl h1)] at HE
      go_wp2
      go_ret
      rw [HE.out]
      exact ⟨rfl, HB.out⟩
    · by_cases h2 : H.2 < L.2
      · rw [if_pos (.inr h2)] at HE
        go_wp2
        go_ret
        rw [HE.out]
        exact ⟨rfl, HB.out⟩
      · rw [if_neg (by omega)] at HE
        go_wp2
        go_ret
        rw [HE.out]
        exact ⟨rfl, HB.out⟩

theorem hasB_iff {L H p : Int × Int} : hasB L H p = true ↔ InW L H p := by
  unfold hasB InW
  simp only [Bool.and_eq_true, decide_eq_true_eq, and_assoc]
theorem hasB_not {L H p : Int × Int} (h : hasB L H p = false) : ¬ InW L H p := fun e => by rw [hasB_iff.2 e] at h; cases h
/-- What Cuts comes to, and Meets. -/
noncomputable def cutV (L H a b : Int × Int) : Bool := @decide (Cut L H a b) (Classical.propDecidable _)
noncomputable def metV (L H : Int × Int) (r : List (Int × Int)) : Bool := @decide (Met L H r) (Classical.propDecidable _)
theorem cutV_iff {L H a b : Int × Int} : cutV L H a b = true ↔ Cut L H a b := by unfold cutV; exact @decide_eq_true_iff _ (Classical.propDecidable _)
theorem cutV_not {L H a b : Int × Int} : cutV L H a b = false ↔ ¬ Cut L H a b := by rw [← cutV_iff, Bool.not_eq_true]
theorem metV_iff {L H : Int × Int} {r : List (Int × Int)} : metV L H r = true ↔ Met L H r := by unfold metV; exact @decide_eq_true_iff _ (Classical.propDecidable _)
theorem metV_not {L H : Int × Int} {r : List (Int × Int)} : metV L H r = false ↔ ¬ Met L H r := by rw [← metV_iff, Bool.not_eq_true]
/-- Whether both ends are beyond one side. -/
def farB (L H a b : Int × Int) : Bool := (((decide (a.1 < L.1) && decide (b.1 < L.1)) || (decide (H.1 < a.1) && decide (H.1 < b.1))) || (decide (a.2 < L.2) && decide (b.2 < L.2))) || (decide (H.2 < a.2) && decide (H.2 < b.2))
theorem farB_iff {L H a b : Int × Int} : farB L H a b = true ↔ Far L H a b := by
  unfold farB Far
  simp only [Bool.or_eq_true, Bool.and_eq_true, decide_eq_true_eq, or_assoc]
/-- Whether one of the first corners is to the left of the way, or in line; to the right, or in line. -/
def lefB (L H a b : Int × Int) (k : Nat) : Bool := (List.range k).any fun j => decide (0 ≤ sgn (crs a b (cor L H j)))
def rigB (L H a b : Int × Int) (k : Nat) : Bool := (List.range k).any fun j => decide (sgn (crs a b (cor L H j)) ≤ 0)
theorem lefB_succ (L H a b : Int × Int) (k : Nat) : lefB L H a b (k + 1) = (lefB L H a b k || decide (0 ≤ sgn (crs a b (cor L H k)))) := by
  unfold lefB; rw [List.range_succ, List.any_append]; simp
theorem rigB_succ (L H a b : Int × Int) (k : Nat) : rigB L H a b (k + 1) = (rigB L H a b k || decide (sgn (crs a b (cor L H k)) ≤ 0)) := by
  unfold rigB; rw [List.range_succ, List.any_append]; simp
theorem sgn_ge {n : Int} : 0 ≤ sgn n ↔ 0 ≤ n := by have := sgn_lt (n := n); omega
theorem sgn_le {n : Int} : sgn n ≤ 0 ↔ n ≤ 0 := by have := sgn_gt (n := n); omega
theorem sidesB_iff {L H a b : Int × Int} : (lefB L H a b 4 && rigB L H a b 4) = true ↔ Sides L H a b := by
  unfold lefB rigB Sides
  simp only [Bool.and_eq_true, List.any_eq_true, List.mem_range, decide_eq_true_eq, sgn_ge, sgn_le]
theorem cutV_doc {L H a b : Int × Int} (hL : L.1 ≤ H.1 ∧ L.2 ≤ H.2) (h : farB L H a b = false) : cutV L H a b = (lefB L H a b 4 && rigB L H a b 4) := by
  have hf : ¬ Far L H a b := fun e => by rw [farB_iff.2 e] at h; cases h
  rw [Bool.eq_iff_iff, cutV_iff, sidesB_iff, cut_iff hL]
  exact ⟨fun h => h.2, fun h => ⟨hf, h⟩⟩
theorem cutV_far {L H a b : Int × Int} (h : farB L H a b = true) : cutV L H a b = false := cutV_not.2 fun e => cut_near e (farB_iff.1 h)
section
variable {w W : World} {L H a b : Int × Int}
theorem Hold.wab {g0 g1 g2 : Nat} {t0 t1 t2 : TypeId} {K : List (Nat × Array Value × TypeId)} (h : Hold w ((g2, #[.int .i64 b.1, .int .i64 b.2], t2) :: (g1, #[.int .i64 a.1, .int .i64 a.2], t1) :: (g0, #[.int .i64 L.1, .int .i64 L.2, .int .i64 H.1, .int .i64 H.2], t0) :: K) W) :
    (W.cell? ⟨g0, 0, none⟩ = some (.int .i64 L.1) ∧ W.cell? ⟨g0, 1, none⟩ = some (.int .i64 L.2) ∧ W.cell? ⟨g0, 2, none⟩ = some (.int .i64 H.1) ∧ W.cell? ⟨g0, 3, none⟩ = some (.int .i64 H.2)) ∧ W.cell? ⟨g1, 0, none⟩ = some (.int .i64 a.1) ∧ W.cell? ⟨g1, 1, none⟩ = some (.int .i64 a.2) ∧ W.cell? ⟨g2, 0, none⟩ = some (.int .i64 b.1) ∧ W.cell? ⟨g2, 1, none⟩ = some (.int .i64 b.2) :=
  ⟨h.win (.tail _ (.tail _ (.head _))), (h.pt (.tail _ (.head _))).1, (h.pt (.tail _ (.head _))).2, (h.pt (.head _)).1, (h.pt (.head _)).2⟩
end


end Go.Proofs.Ytfihddpidaidiaa
