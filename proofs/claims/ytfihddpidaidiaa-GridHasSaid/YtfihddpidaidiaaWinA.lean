/- The program's calls on windows, first part: Check, framed, has. -/
import Derived.Test.YtfihddpidaidiaaGeoAns
namespace Go.Proofs.Ytfihddpidaidiaa
open Go.RowKit

/-- Whether a point is in a window. -/
def hasB (L H p : Int × Int) : Bool := ((decide (L.1 ≤ p.1) && decide (p.1 ≤ H.1)) && decide (L.2 ≤ p.2)) && decide (p.2 ≤ H.2)
/-- What Check answers. -/
def wnE (L H : Int × Int) : Int := if gdL [L, H] = true then (if H.1 < L.1 ∨ H.2 < L.2 then 1 else 0) else 3
theorem wnE_zero {L H : Int × Int} : wnE L H = 0 ↔ gdL [L, H] = true ∧ L.1 ≤ H.1 ∧ L.2 ≤ H.2 := by
  unfold wnE
  cases gdL [L, H]
  · simp
  · rw [if_pos rfl]
    by_cases h : H.1 < L.1 ∨ H.2 < L.2
    · rw [if_pos h]; simp; omega
    · rw [if_neg h]; simp; omega
section
variable {w W : World} {g : Nat} {t : TypeId} {L H : Int × Int} {K : List (Nat × Array Value × TypeId)}
theorem Hold.win (h : Hold w K W) (hm : (g, #[.int .i64 L.1, .int .i64 L.2, .int .i64 H.1, .int .i64 H.2], t) ∈ K) : W.cell? ⟨g, 0, none⟩ = some (.int .i64 L.1) ∧ W.cell? ⟨g, 1, none⟩ = some (.int .i64 L.2) ∧ W.cell? ⟨g, 2, none⟩ = some (.int .i64 H.1) ∧ W.cell? ⟨g, 3, none⟩ = some (.int .i64 H.2) :=
  ⟨h.cell hm 0, h.cell hm 1, h.cell hm 2, h.cell hm 3⟩
theorem Hold.frm (h : Hold w K W) (hm : (g, #[.int .i64 L.1, .int .i64 L.2, .int .i64 H.1, .int .i64 H.2, .int .i64 L.1, .int .i64 L.2, .int .i64 H.1, .int .i64 L.2, .int .i64 H.1, .int .i64 H.2, .int .i64 L.1, .int .i64 H.2], t) ∈ K) : (W.cell? ⟨g, 0, none⟩ = some (.int .i64 L.1) ∧ W.cell? ⟨g, 1, none⟩ = some (.int .i64 L.2) ∧ W.cell? ⟨g, 2, none⟩ = some (.int .i64 H.1) ∧ W.cell? ⟨g, 3, none⟩ = some (.int .i64 H.2)) ∧
    (W.cell? ⟨g, 4, none⟩ = some (.int .i64 L.1) ∧ W.cell? ⟨g, 5, none⟩ = some (.int .i64 L.2) ∧ W.cell? ⟨g, 6, none⟩ = some (.int .i64 H.1) ∧ W.cell? ⟨g, 7, none⟩ = some (.int .i64 L.2) ∧ W.cell? ⟨g, 8, none⟩ = some (.int .i64 H.1) ∧ W.cell? ⟨g, 9, none⟩ = some (.int .i64 H.2) ∧ W.cell? ⟨g, 10, none⟩ = some (.int .i64 L.1) ∧ W.cell? ⟨g, 11, none⟩ = some (.int .i64 H.2)) :=
  ⟨⟨h.cell hm 0, h.cell hm 1, h.cell hm 2, h.cell hm 3⟩, h.cell hm 4, h.cell hm 5, h.cell hm 6, h.cell hm 7, h.cell hm 8, h.cell hm 9, h.cell hm 10, h.cell hm 11⟩
end

set_option maxRecDepth 100000 in
set_option maxHeartbeats 2000000 in
theorem wcheck_any (L H : Int × Int) (w : World) :
    Calls Try.prog 26 #[.agg #[.int .i64 L.1, .int .i64 L.2, .int .i64 H.1, .int .i64 H.2]] w fun e w' => e = .returned (.int .i64 (wnE L H)) ∧ Below w.heap.size w w' := by
  have HQ := (Hold.refl w).new #[.int .i64 L.1, .int .i64 L.2, .int .i64 H.1, .int .i64 H.2] 34
  have HE : Hid (wnE L H = if gdL [L, H] = true then (if H.1 < L.1 ∨ H.2 < L.2 then 1 else 0) else 3) := rfl
  go_enter Try.func26, Try.ntmps26
  go_upto_region 1 with (fail)
  generalize (World.alloc _ _) = W1 at HQ ⊢
  obtain ⟨g0, hg0⟩ : ∃ g, w.heap.size = g := ⟨_, rfl⟩
  rw [hg0] at HQ ⊢
  have HG0 := Lib.hid hg0
  clear hg0
  obtain ⟨c0, c1, c2, c3⟩ := HQ.win (.head _)
  go_wp2_with fail
  go_at_call 23
  refine (good_two L H _ _ _).mono ?_
  rintro e w1 ⟨rfl, hB⟩
  replace HQ := (HQ.alloc _).on (hB.mono (by simp only [World.size_alloc]; omega))
  clear hB c0 c1 c2 c3
  cases hg : gdL [L, H]
  · rw [hg] at HE
    have HB := Lib.hid HQ.1
    clear HQ hg
    go_wp2
    go_ret
    rw [HE.out]
    exact ⟨rfl, HB.out⟩
  · rw [hg, if_pos rfl] at HE
    obtain ⟨c0, c1, c2, c3⟩ := HQ.win (.head _)
    have HB := Lib.hid HQ.1
    clear HQ hg
    by_cases h1 : H.1 < L.1
    · rw [if_pos (.inl h1)] at HE
      go_wp2
      go_ret
      rw [HE.out]
      exact ⟨rfl, HB.out⟩
    · by_cases h2 : H.2 < L.2
      · rw [if_pos (.inr h2)] at HE
        go_wp2
        go_ret
        rw [HE.out]
        exact ⟨rfl, HB.out⟩
      · rw [if_neg (by omega)] at HE
        go_wp2
        go_ret
        rw [HE.out]
        exact ⟨rfl, HB.out⟩
end Go.Proofs.Ytfihddpidaidiaa
