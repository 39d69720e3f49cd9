/- The program's calls on windows, first part: Check, framed, has. -/
import Derived.Test.YtjlnjjmomohpaaaGreatGeoAns
import Derived.Test.YtjlnjjmomohpaaaGreatRefSide
namespace Go.Proofs.YtjlnjjmomohpaaaGreat
open Go.RowKit

def wnE (L H : Int × Int) : Int := if gdL [L, H] = true then (if H.1 < L.1 ∨ H.2 < L.2 then 1 else 0) else 3
theorem wnE_zero {L H : Int × Int} : wnE L H = 0 ↔ gdL [L, H] = true ∧ L.1 ≤ H.1 ∧ L.2 ≤ H.2 := by
 unfold wnE
 cases gdL [L, H]
 ·simp
 ·rw [if_pos rfl]
  by_cases h : H.1 < L.1 ∨ H.2 < L.2
  ·rw [if_pos h]; simp; omega
  ·rw [if_neg h]; simp; omega
section
variable {w W : World} {g : Nat} {t : TypeId} {L H : Int × Int} {K : List (Nat × Array Value × TypeId)}
theorem Hold.win (h : Hold w K W) (hm : (g, #[.int .i64 L.1, .int .i64 L.2, .int .i64 H.1, .int .i64 H.2], t) ∈ K) : W.cell? ⟨g, 0, none⟩ = some (.int .i64 L.1) ∧ W.cell? ⟨g, 1, none⟩ = some (.int .i64 L.2) ∧ W.cell? ⟨g, 2, none⟩ = some (.int .i64 H.1) ∧ W.cell? ⟨g, 3, none⟩ = some (.int .i64 H.2) :=
 ⟨h.cell hm 0, h.cell hm 1, h.cell hm 2, h.cell hm 3⟩
end

set_option maxRecDepth 100000 in
set_option maxHeartbeats 2000000 in
theorem wcheck_any (L H : Int × Int) (w : World) :
  Calls Tryz.prog 139 #[.agg #[.int .i64 L.1, .int .i64 L.2, .int .i64 H.1, .int .i64 H.2]] w fun e w' => e = .returned (.int .i64 (wnE L H)) ∧ Below w.heap.size w w' := by
 have HQ := (Hold.refl w).new #[.int .i64 L.1, .int .i64 L.2, .int .i64 H.1, .int .i64 H.2] 85
 have HE : Hid (wnE L H = if gdL [L, H] = true then (if H.1 < L.1 ∨ H.2 < L.2 then 1 else 0) else 3) := rfl
 go_enter Tryz.func139, Tryz.ntmps139
 go_upto_region 1 with (fail)
 generalize (World.alloc _ _) = W1 at HQ ⊢
 obtain ⟨g0, hg0⟩ : ∃ g, w.heap.size = g := ⟨_, rfl⟩
 rw [hg0] at HQ ⊢
 have HG0 := Lib.hid hg0
 clear hg0
 obtain ⟨c0, c1, c2, c3⟩ := HQ.win (.head _)
 go_wp2_with fail
 go_at_call 162
 refine (good_two L H _ _ _).mono ?_
 rintro e w1 ⟨rfl, hB⟩
 replace HQ := (HQ.alloc _).on (hB.mono (by simp only [World.size_alloc]; omega))
 clear hB c0 c1 c2 c3
 cases hg : gdL [L, H]
 ·rw [hg] at HE
  have HB := Lib.hid HQ.1
  clear HQ hg
  go_wp2
  go_ret
  rw [HE.out]
  exact ⟨rfl, HB.out⟩
 ·rw [hg, if_pos rfl] at HE
  obtain ⟨c0, c1, c2, c3⟩ := HQ.win (.head _)
  have HB := Lib.hid HQ.1
  clear HQ hg
  by_cases h1 : H.1 < L.1
  ·rw [if_pos (.inl h1)] at HE
   go_wp2
   go_ret
   rw [HE.out]
   exact ⟨rfl, HB.out⟩
  ·by_cases h2 : H.2 < L.2
   ·rw [if_pos (.inr h2)] at HE
    go_wp2
    go_ret
    rw [HE.out]
    exact ⟨rfl, HB.out⟩
   ·rw [if_neg (by omega)] at HE
    go_wp2
    go_ret
    rw [HE.out]
    exact ⟨rfl, HB.out⟩
end Go.Proofs.YtjlnjjmomohpaaaGreat

namespace Go.Proofs.YtjlnjjmomohpaaaGreat
open Go.RowKit

section
variable {w W : World} {g : Nat} {t : TypeId} {x0 x1 x2 x3 x4 x5 x6 x7 x8 x9 x10 x11 : Value} {L1 L2 : List (Nat × Array Value × TypeId)}
end
end Go.Proofs.YtjlnjjmomohpaaaGreat
