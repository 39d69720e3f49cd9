/- The program's calls on windows, first part: Check, framed, has. -/
import Derived.Test.YtoabooljgojoiabGreatGeoAns
import Derived.Test.YtoabooljgojoiabGreatRefSide
namespace Go.Proofs.YtoabooljgojoiabGreat
open Go.RowKit

def hasB (L H p : Int × Int) : Bool := ((decide (L.1 ≤ p.1) && decide (p.1 ≤ H.1)) && decide (L.2 ≤ p.2)) && decide (p.2 ≤ H.2)
def wnE (L H : Int × Int) : Int := if gdL [L, H] = true then (if H.1 < L.1 ∨ H.2 < L.2 then 1 else 0) else 3
theorem wnE_zero {L H : Int × Int} : wnE L H = 0 ↔ gdL [L, H] = true ∧ L.1 ≤ H.1 ∧ L.2 ≤ H.2 := by
 unfold wnE
 cases gdL [L, H]
 ·simp
 ·rw [if_pos rfl]
  by_cases h : H.1 < L.1 ∨ H.2 < L.2
  ·rw [if_pos h]; simp; omega
  ·rw [if_neg h]; simp; omega
section
variable {w W : World} {g : Nat} {t : TypeId} {L H : Int × Int} {K : List (Nat × Array Value × TypeId)}
theorem Hold.win (h : Hold w K W) (hm : (g, #[.int .i64 L.1, .int .i64 L.2, .int .i64 H.1, .int .i64 H.2], t) ∈ K) : W.cell? ⟨g, 0, none⟩ = some (.int .i64 L.1) ∧ W.cell? ⟨g, 1, none⟩ = some (.int .i64 L.2) ∧ W.cell? ⟨g, 2, none⟩ = some (.int .i64 H.1) ∧ W.cell? ⟨g, 3, none⟩ = some (.int .i64 H.2) :=
 ⟨h.cell hm 0, h.cell hm 1, h.cell hm 2, h.cell hm 3⟩
theorem Hold.frm (h : Hold w K W) (hm : (g, #[.int .i64 L.1, .int .i64 L.2, .int .i64 H.1, .int .i64 H.2, .int .i64 L.1, .int .i64 L.2, .int .i64 H.1, .int .i64 L.2, .int .i64 H.1, .int .i64 H.2, .int .i64 L.1, .int .i64 H.2], t) ∈ K) : (W.cell? ⟨g, 0, none⟩ = some (.int .i64 L.1) ∧ W.cell? ⟨g, 1, none⟩ = some (.int .i64 L.2) ∧ W.cell? ⟨g, 2, none⟩ = some (.int .i64 H.1) ∧ W.cell? ⟨g, 3, none⟩ = some (.int .i64 H.2)) ∧
  (W.cell? ⟨g, 4, none⟩ = some (.int .i64 L.1) ∧ W.cell? ⟨g, 5, none⟩ = some (.int .i64 L.2) ∧ W.cell? ⟨g, 6, none⟩ = some (.int .i64 H.1) ∧ W.cell? ⟨g, 7, none⟩ = some (.int .i64 L.2) ∧ W.cell? ⟨g, 8, none⟩ = some (.int .i64 H.1) ∧ W.cell? ⟨g, 9, none⟩ = some (.int .i64 H.2) ∧ W.cell? ⟨g, 10, none⟩ = some (.int .i64 L.1) ∧ W.cell? ⟨g, 11, none⟩ = some (.int .i64 H.2)) :=
 ⟨⟨h.cell hm 0, h.cell hm 1, h.cell hm 2, h.cell hm 3⟩, h.cell hm 4, h.cell hm 5, h.cell hm 6, h.cell hm 7, h.cell hm 8, h.cell hm 9, h.cell hm 10, h.cell hm 11⟩
end

set_option maxRecDepth 100000 in
set_option maxHeartbeats 2000000 in
theorem fhas_any (L H p : Int × Int) (w : World) :
  Calls Tryz.prog 96 #[.agg #[.int .i64 L.1, .int .i64 L.2, .int .i64 H.1, .int .i64 H.2, .int .i64 L.1, .int .i64 L.2, .int .i64 H.1, .int .i64 L.2, .int .i64 H.1, .int .i64 H.2, .int .i64 L.1, .int .i64 H.2], .agg #[.int .i64 p.1, .int .i64 p.2]] w fun e w' => e = .returned (.bool (hasB L H p)) ∧ Below w.heap.size w w' := by
 by_cases h1 : L.1 ≤ p.1
 ·by_cases h2 : p.1 ≤ H.1
  ·by_cases h3 : L.2 ≤ p.2
   ·by_cases h4 : p.2 ≤ H.2
    ·have HG : Hid (hasB L H p = true) := by unfold Hid hasB; simp [h1, h2, h3, h4]
     go_enter Tryz.func96, Tryz.ntmps96
     go_wp2
     go_ret
     rw [HG.out]
     exact ⟨rfl, by go_grown⟩
    ·have HG : Hid (hasB L H p = false) := by unfold Hid hasB; simp [h4]
     go_enter Tryz.func96, Tryz.ntmps96
     go_wp2
     go_ret
     rw [HG.out]
     exact ⟨rfl, by go_grown⟩
   ·have HG : Hid (hasB L H p = false) := by unfold Hid hasB; simp [h3]
    go_enter Tryz.func96, Tryz.ntmps96
    go_wp2
    go_ret
    rw [HG.out]
    exact ⟨rfl, by go_grown⟩
  ·have HG : Hid (hasB L H p = false) := by unfold Hid hasB; simp [h2]
   go_enter Tryz.func96, Tryz.ntmps96
   go_wp2
   go_ret
   rw [HG.out]
   exact ⟨rfl, by go_grown⟩
 ·have HG : Hid (hasB L H p = false) := by unfold Hid hasB; simp [h1]
  go_enter Tryz.func96, Tryz.ntmps96
  go_wp2
  go_ret
  rw [HG.out]
  exact ⟨rfl, by go_grown⟩

set_option maxRecDepth 100000 in
set_option maxHeartbeats 2000000 in
theorem wcheck_any (L H : Int × Int) (w : World) :
  Calls Tryz.prog 32 #[.agg #[.int .i64 L.1, .int .i64 L.2, .int .i64 H.1, .int .i64 H.2]] w fun e w' => e = .returned (.int .i64 (wnE L H)) ∧ Below w.heap.size w w' := by
 have HQ := (Hold.refl w).new #[.int .i64 L.1, .int .i64 L.2, .int .i64 H.1, .int .i64 H.2] 30
 have HE : Hid (wnE L H = if gdL [L, H] = true then (if H.1 < L.1 ∨ H.2 < L.2 then 1 else 0) else 3) := rfl
 go_enter Tryz.func32, Tryz.ntmps32
 go_upto_region 1 with (fail)
 generalize (World.alloc _ _) = W1 at HQ ⊢
 obtain ⟨g0, hg0⟩ : ∃ g, w.heap.size = g := ⟨_, rfl⟩
 rw [hg0] at HQ ⊢
 have HG0 := Lib.hid hg0
 clear hg0
 obtain ⟨c0, c1, c2, c3⟩ := HQ.win (.head _)
 go_wp2_with fail
 go_at_call 59
 refine (good_two L H _ _ _).mono ?_
 rintro e w1 ⟨rfl, hB⟩
 replace HQ := (HQ.alloc _).on (hB.mono (by simp only [World.size_alloc]; omega))
 clear hB c0 c1 c2 c3
 cases hg : gdL [L, H]
 ·rw [hg] at HE
  have HB := Lib.hid HQ.1
  clear HQ hg
  go_wp2
  go_ret
  rw [HE.out]
  exact ⟨rfl, HB.out⟩
 ·rw [hg, if_pos rfl] at HE
  obtain ⟨c0, c1, c2, c3⟩ := HQ.win (.head _)
  have HB := Lib.hid HQ.1
  clear HQ hg
  by_cases h1 : H.1 < L.1
  ·rw [if_pos (.inl h1)] at HE
   go_wp2
   go_ret
   rw [HE.out]
   exact ⟨rfl, HB.out⟩
  ·by_cases h2 : H.2 < L.2
   ·rw [if_pos (.inr h2)] at HE
    go_wp2
    go_ret
    rw [HE.out]
    exact ⟨rfl, HB.out⟩
   ·rw [if_neg (by omega)] at HE
    go_wp2
    go_ret
    rw [HE.out]
    exact ⟨rfl, HB.out⟩
end Go.Proofs.YtoabooljgojoiabGreat

namespace Go.Proofs.YtoabooljgojoiabGreat
open Go.RowKit

section
variable {w W : World} {g : Nat} {t : TypeId} {x0 x1 x2 x3 x4 x5 x6 x7 x8 x9 x10 x11 : Value} {L1 L2 : List (Nat × Array Value × TypeId)}
theorem Hold.set12 (h : Hold w (L1 ++ (g, #[x0, x1, x2, x3, x4, x5, x6, x7, x8, x9, x10, x11], t) :: L2) W) (y0 y1 y2 y3 y4 y5 y6 y7 y8 y9 y10 y11 : Value) : Hold w (L1 ++ (g, #[y0, y1, y2, y3, y4, y5, y6, y7, y8, y9, y10, y11], t) :: L2) ((((((((((((W.setCell ⟨g, 0, none⟩ y0).setCell ⟨g, 1, none⟩ y1).setCell ⟨g, 2, none⟩ y2).setCell ⟨g, 3, none⟩ y3).setCell ⟨g, 4, none⟩ y4).setCell ⟨g, 5, none⟩ y5).setCell ⟨g, 6, none⟩ y6).setCell ⟨g, 7, none⟩ y7).setCell ⟨g, 8, none⟩ y8).setCell ⟨g, 9, none⟩ y9).setCell ⟨g, 10, none⟩ y10).setCell ⟨g, 11, none⟩ y11) := by
 have h0 : Hold w (L1 ++ (g, #[y0, x1, x2, x3, x4, x5, x6, x7, x8, x9, x10, x11], t) :: L2) (W.setCell ⟨g, 0, none⟩ y0) := Hold.put h 0 y0
 have h1 : Hold w (L1 ++ (g, #[y0, y1, x2, x3, x4, x5, x6, x7, x8, x9, x10, x11], t) :: L2) ((W.setCell ⟨g, 0, none⟩ y0).setCell ⟨g, 1, none⟩ y1) := Hold.put h0 1 y1
 have h2 : Hold w (L1 ++ (g, #[y0, y1, y2, x3, x4, x5, x6, x7, x8, x9, x10, x11], t) :: L2) (((W.setCell ⟨g, 0, none⟩ y0).setCell ⟨g, 1, none⟩ y1).setCell ⟨g, 2, none⟩ y2) := Hold.put h1 2 y2
 have h3 : Hold w (L1 ++ (g, #[y0, y1, y2, y3, x4, x5, x6, x7, x8, x9, x10, x11], t) :: L2) ((((W.setCell ⟨g, 0, none⟩ y0).setCell ⟨g, 1, none⟩ y1).setCell ⟨g, 2, none⟩ y2).setCell ⟨g, 3, none⟩ y3) := Hold.put h2 3 y3
 have h4 : Hold w (L1 ++ (g, #[y0, y1, y2, y3, y4, x5, x6, x7, x8, x9, x10, x11], t) :: L2) (((((W.setCell ⟨g, 0, none⟩ y0).setCell ⟨g, 1, none⟩ y1).setCell ⟨g, 2, none⟩ y2).setCell ⟨g, 3, none⟩ y3).setCell ⟨g, 4, none⟩ y4) := Hold.put h3 4 y4
 have h5 : Hold w (L1 ++ (g, #[y0, y1, y2, y3, y4, y5, x6, x7, x8, x9, x10, x11], t) :: L2) ((((((W.setCell ⟨g, 0, none⟩ y0).setCell ⟨g, 1, none⟩ y1).setCell ⟨g, 2, none⟩ y2).setCell ⟨g, 3, none⟩ y3).setCell ⟨g, 4, none⟩ y4).setCell ⟨g, 5, none⟩ y5) := Hold.put h4 5 y5
 have h6 : Hold w (L1 ++ (g, #[y0, y1, y2, y3, y4, y5, y6, x7, x8, x9, x10, x11], t) :: L2) (((((((W.setCell ⟨g, 0, none⟩ y0).setCell ⟨g, 1, none⟩ y1).setCell ⟨g, 2, none⟩ y2).setCell ⟨g, 3, none⟩ y3).setCell ⟨g, 4, none⟩ y4).setCell ⟨g, 5, none⟩ y5).setCell ⟨g, 6, none⟩ y6) := Hold.put h5 6 y6
 have h7 : Hold w (L1 ++ (g, #[y0, y1, y2, y3, y4, y5, y6, y7, x8, x9, x10, x11], t) :: L2) ((((((((W.setCell ⟨g, 0, none⟩ y0).setCell ⟨g, 1, none⟩ y1).setCell ⟨g, 2, none⟩ y2).setCell ⟨g, 3, none⟩ y3).setCell ⟨g, 4, none⟩ y4).setCell ⟨g, 5, none⟩ y5).setCell ⟨g, 6, none⟩ y6).setCell ⟨g, 7, none⟩ y7) := Hold.put h6 7 y7
 have h8 : Hold w (L1 ++ (g, #[y0, y1, y2, y3, y4, y5, y6, y7, y8, x9, x10, x11], t) :: L2) (((((((((W.setCell ⟨g, 0, none⟩ y0).setCell ⟨g, 1, none⟩ y1).setCell ⟨g, 2, none⟩ y2).setCell ⟨g, 3, none⟩ y3).setCell ⟨g, 4, none⟩ y4).setCell ⟨g, 5, none⟩ y5).setCell ⟨g, 6, none⟩ y6).setCell ⟨g, 7, none⟩ y7).setCell ⟨g, 8, none⟩ y8) := Hold.put h7 8 y8
 have h9 : Hold w (L1 ++ (g, #[y0, y1, y2, y3, y4, y5, y6, y7, y8, y9, x10, x11], t) :: L2) ((((((((((W.setCell ⟨g, 0, none⟩ y0).setCell ⟨g, 1, none⟩ y1).setCell ⟨g, 2, none⟩ y2).setCell ⟨g, 3, none⟩ y3).setCell ⟨g, 4, none⟩ y4).setCell ⟨g, 5, none⟩ y5).setCell ⟨g, 6, none⟩ y6).setCell ⟨g, 7, none⟩ y7).setCell ⟨g, 8, none⟩ y8).setCell ⟨g, 9, none⟩ y9) := Hold.put h8 9 y9
 have h10 : Hold w (L1 ++ (g, #[y0, y1, y2, y3, y4, y5, y6, y7, y8, y9, y10, x11], t) :: L2) (((((((((((W.setCell ⟨g, 0, none⟩ y0).setCell ⟨g, 1, none⟩ y1).setCell ⟨g, 2, none⟩ y2).setCell ⟨g, 3, none⟩ y3).setCell ⟨g, 4, none⟩ y4).setCell ⟨g, 5, none⟩ y5).setCell ⟨g, 6, none⟩ y6).setCell ⟨g, 7, none⟩ y7).setCell ⟨g, 8, none⟩ y8).setCell ⟨g, 9, none⟩ y9).setCell ⟨g, 10, none⟩ y10) := Hold.put h9 10 y10
 have h11 : Hold w (L1 ++ (g, #[y0, y1, y2, y3, y4, y5, y6, y7, y8, y9, y10, y11], t) :: L2) ((((((((((((W.setCell ⟨g, 0, none⟩ y0).setCell ⟨g, 1, none⟩ y1).setCell ⟨g, 2, none⟩ y2).setCell ⟨g, 3, none⟩ y3).setCell ⟨g, 4, none⟩ y4).setCell ⟨g, 5, none⟩ y5).setCell ⟨g, 6, none⟩ y6).setCell ⟨g, 7, none⟩ y7).setCell ⟨g, 8, none⟩ y8).setCell ⟨g, 9, none⟩ y9).setCell ⟨g, 10, none⟩ y10).setCell ⟨g, 11, none⟩ y11) := Hold.put h10 11 y11
 exact h11
theorem Hold.rd12 (h : Hold w L2 W) (hm : (g, #[x0, x1, x2, x3, x4, x5, x6, x7, x8, x9, x10, x11], t) ∈ L2) : W.cell? ⟨g, 0, none⟩ = some x0 ∧ W.cell? ⟨g, 1, none⟩ = some x1 ∧ W.cell? ⟨g, 2, none⟩ = some x2 ∧ W.cell? ⟨g, 3, none⟩ = some x3 ∧ W.cell? ⟨g, 4, none⟩ = some x4 ∧ W.cell? ⟨g, 5, none⟩ = some x5 ∧ W.cell? ⟨g, 6, none⟩ = some x6 ∧ W.cell? ⟨g, 7, none⟩ = some x7 ∧ W.cell? ⟨g, 8, none⟩ = some x8 ∧ W.cell? ⟨g, 9, none⟩ = some x9 ∧ W.cell? ⟨g, 10, none⟩ = some x10 ∧ W.cell? ⟨g, 11, none⟩ = some x11 :=
 ⟨h.cell hm 0, h.cell hm 1, h.cell hm 2, h.cell hm 3, h.cell hm 4, h.cell hm 5, h.cell hm 6, h.cell hm 7, h.cell hm 8, h.cell hm 9, h.cell hm 10, h.cell hm 11⟩
theorem Hold.fz12 (h : Hold w L2 W) (hm : (g, #[x0, x1, x2, x3, x4, x5, x6, x7, x8, x9, x10, x11], t) ∈ L2) : W.frozen? ⟨g, 0, none⟩ = false ∧ W.frozen? ⟨g, 1, none⟩ = false ∧ W.frozen? ⟨g, 2, none⟩ = false ∧ W.frozen? ⟨g, 3, none⟩ = false ∧ W.frozen? ⟨g, 4, none⟩ = false ∧ W.frozen? ⟨g, 5, none⟩ = false ∧ W.frozen? ⟨g, 6, none⟩ = false ∧ W.frozen? ⟨g, 7, none⟩ = false ∧ W.frozen? ⟨g, 8, none⟩ = false ∧ W.frozen? ⟨g, 9, none⟩ = false ∧ W.frozen? ⟨g, 10, none⟩ = false ∧ W.frozen? ⟨g, 11, none⟩ = false :=
 ⟨h.frozen hm 0, h.frozen hm 1, h.frozen hm 2, h.frozen hm 3, h.frozen hm 4, h.frozen hm 5, h.frozen hm 6, h.frozen hm 7, h.frozen hm 8, h.frozen hm 9, h.frozen hm 10, h.frozen hm 11⟩
end
set_option maxRecDepth 100000 in
set_option maxHeartbeats 2000000 in
theorem framed_bad (L H : Int × Int) (v : Value) (he : wnE L H ≠ 0) (w : World) :
  Calls Tryz.prog 37 #[.agg #[.int .i64 L.1, .int .i64 L.2, .int .i64 H.1, .int .i64 H.2], v] w fun e w' => e = .returned (.tuple #[.agg #[.int .i64 0, .int .i64 0, .int .i64 0, .int .i64 0, .int .i64 0, .int .i64 0, .int .i64 0, .int .i64 0, .int .i64 0, .int .i64 0, .int .i64 0, .int .i64 0], .int .i64 (wnE L H)]) ∧ Below w.heap.size w w' := by
 have HQ := ((Hold.refl w).new #[.int .i64 L.1, .int .i64 L.2, .int .i64 H.1, .int .i64 H.2] 30).new' #[.int .i64 0, .int .i64 0, .int .i64 0, .int .i64 0, .int .i64 0, .int .i64 0, .int .i64 0, .int .i64 0, .int .i64 0, .int .i64 0, .int .i64 0, .int .i64 0] 102 (n := w.heap.size + 1) (by simp)
 obtain ⟨c0, c1, c2, c3⟩ := HQ.win (.tail _ (.head _))
 have HC := Lib.hid (fun W => wcheck_any L H W)
 have e0 : (wnE L H != 0) = true := by simpa using he
 clear he
 generalize wnE L H = x at *
 go_enter Tryz.func37, Tryz.ntmps37
 go_wp2_with (go_at_call 32; go_must (with_reducible refine (HC.out _).mono ?_; rintro e w1 ⟨rfl, hB⟩; replace HQ := HQ.on hB; obtain ⟨k0, k1, k2, k3, k4, k5, k6, k7, k8, k9, k10, k11⟩ := HQ.rd12 List.mem_cons_self; obtain ⟨z0, z1, z2, z3, z4, z5, z6, z7, z8, z9, z10, z11⟩ := HQ.fz12 List.mem_cons_self))
 have HE := Hold.set12 (L1 := []) HQ (.int .i64 0) (.int .i64 0) (.int .i64 0) (.int .i64 0) (.int .i64 0) (.int .i64 0) (.int .i64 0) (.int .i64 0) (.int .i64 0) (.int .i64 0) (.int .i64 0) (.int .i64 0)
 obtain ⟨n0, n1, n2, n3, n4, n5, n6, n7, n8, n9, n10, n11⟩ := HE.rd12 List.mem_cons_self
 refine bodyPost_ret (v := .tuple #[.agg #[.int .i64 0, .int .i64 0, .int .i64 0, .int .i64 0, .int .i64 0, .int .i64 0, .int .i64 0, .int .i64 0, .int .i64 0, .int .i64 0, .int .i64 0, .int .i64 0], .int .i64 x]) ?_ rfl ⟨rfl, HE.1⟩
 simp [results, Tryz.results37, go_sem, n0, n1, n2, n3, n4, n5, n6, n7, n8, n9, n10, n11]

set_option maxRecDepth 100000 in
set_option maxHeartbeats 4000000 in
theorem framed_good (L H : Int × Int) (ps : List (Int × Int)) (A : Option Addr) (cap : Nat) (he : wnE L H = 0) (hg : gdL ps = true) (hn : ps.length ≤ maxLen) (w : World) (hr : Pts w w.heap.size A ps) :
  Calls Tryz.prog 37 #[.agg #[.int .i64 L.1, .int .i64 L.2, .int .i64 H.1, .int .i64 H.2], .slice A ps.length cap] w fun e w' => e = .returned (.tuple #[.agg #[.int .i64 L.1, .int .i64 L.2, .int .i64 H.1, .int .i64 H.2, .int .i64 L.1, .int .i64 L.2, .int .i64 H.1, .int .i64 L.2, .int .i64 H.1, .int .i64 H.2, .int .i64 L.1, .int .i64 H.2], .int .i64 0]) ∧ Below w.heap.size w w' := by
 have HQ := ((Hold.refl w).new #[.int .i64 L.1, .int .i64 L.2, .int .i64 H.1, .int .i64 H.2] 30).new' #[.int .i64 0, .int .i64 0, .int .i64 0, .int .i64 0, .int .i64 0, .int .i64 0, .int .i64 0, .int .i64 0, .int .i64 0, .int .i64 0, .int .i64 0, .int .i64 0] 102 (n := w.heap.size + 1) (by simp)
 obtain ⟨c0, c1, c2, c3⟩ := HQ.win (.tail _ (.head _))
 have HC := Lib.hid (fun W => wcheck_any L H W)
 rw [he] at HC
 have HG := Lib.hid (fun K W (h : Hold w K W) => good_any ps A cap W hn (hr.on h.1))
 rw [hg] at HG
 clear he hg hn hr
 go_enter Tryz.func37, Tryz.ntmps37
 go_wp2_with (first
  |(go_at_call 32; go_must (with_reducible refine (HC.out _).mono ?_; rintro e w1 ⟨rfl, hB⟩; replace HQ := HQ.on hB))
  |(go_at_call 59; go_must (with_reducible refine (HG.out _ _ HQ).mono ?_; rintro e w1 ⟨rfl, hB⟩; replace HQ := HQ.on hB)))
 clear c0 c1 c2 c3
 obtain ⟨g1, hg1⟩ : ∃ g, w.heap.size + 1 = g := ⟨_, rfl⟩
 rw [hg1] at HQ ⊢
 obtain ⟨g0, hg0⟩ : ∃ g, w.heap.size = g := ⟨_, rfl⟩
 rw [hg0] at HQ ⊢
 have HG0 := Lib.hid hg0
 clear hg0 hg1 HG HC
 obtain ⟨c0, c1, c2, c3⟩ := HQ.win (.tail _ (.head _))
 go_upto_region 6 with (fail)
 go_cut [7, 8] (fun s7 s8 wx => ∃ g7 g8, s7 = .pointer (some ⟨g7, 0, none⟩) ∧ s8 = .pointer (some ⟨g8, 0, none⟩) ∧ Hold w [(g7, #[.int .i64 H.1, .int .i64 L.2], 28), (g1, #[.int .i64 0, .int .i64 0, .int .i64 0, .int .i64 0, .int .i64 0, .int .i64 0, .int .i64 0, .int .i64 0, .int .i64 0, .int .i64 0, .int .i64 0, .int .i64 0], 102), (g0, #[.int .i64 L.1, .int .i64 L.2, .int .i64 H.1, .int .i64 H.2], 30)] wx ∧ Hold w [(g8, #[.int .i64 L.1, .int .i64 H.2], 28)] wx)
 case first =>
  have l0 := HQ.lt (.tail _ (.head _))
  have l1 := HQ.lt (.head _)
  have q0 : ¬ g0 = w1.heap.size := by omega
  have q1 : ¬ g0 = w1.heap.size + 1 := by omega
  clear l0 l1
  have X1 : ∀ x y, Hold w [(w1.heap.size, #[x, y], 28), (g1, #[.int .i64 0, .int .i64 0, .int .i64 0, .int .i64 0, .int .i64 0, .int .i64 0, .int .i64 0, .int .i64 0, .int .i64 0, .int .i64 0, .int .i64 0, .int .i64 0], 102), (g0, #[.int .i64 L.1, .int .i64 L.2, .int .i64 H.1, .int .i64 H.2], 30)] (w1.alloc (Obj.cells #[x, y] 28)) := fun x y => HQ.new #[x, y] 28
  have X2 : ∀ x y x' y', Hold w [(w1.heap.size + 1, #[x', y'], 28), (w1.heap.size, #[x, y], 28), (g1, #[.int .i64 0, .int .i64 0, .int .i64 0, .int .i64 0, .int .i64 0, .int .i64 0, .int .i64 0, .int .i64 0, .int .i64 0, .int .i64 0, .int .i64 0, .int .i64 0], 102), (g0, #[.int .i64 L.1, .int .i64 L.2, .int .i64 H.1, .int .i64 H.2], 30)] ((w1.alloc (Obj.cells #[x, y] 28)).alloc (Obj.cells #[x', y'] 28)) := fun x y x' y' => (X1 x y).new' #[x', y'] 28 (by simp only [World.size_alloc])
  have i0 := fun x y => ((X1 x y).win (.tail _ (.tail _ (.head _)))).1
  have i1 := fun x y => ((X1 x y).win (.tail _ (.tail _ (.head _)))).2.1
  have i2 := fun x y => ((X1 x y).win (.tail _ (.tail _ (.head _)))).2.2.1
  have i3 := fun x y => ((X1 x y).win (.tail _ (.tail _ (.head _)))).2.2.2
  have j0 := fun x y x' y' => ((X2 x y x' y').win (.tail _ (.tail _ (.tail _ (.head _))))).1
  have j1 := fun x y x' y' => ((X2 x y x' y').win (.tail _ (.tail _ (.tail _ (.head _))))).2.1
  have j2 := fun x y x' y' => ((X2 x y x' y').win (.tail _ (.tail _ (.tail _ (.head _))))).2.2.1
  have j3 := fun x y x' y' => ((X2 x y x' y').win (.tail _ (.tail _ (.tail _ (.head _))))).2.2.2
  have k0 := fun x y x' y' => ((X2 x y x' y').pt (.head _)).1
  have k1 := fun x y x' y' => ((X2 x y x' y').pt (.head _)).2
  have k2 := fun x y x' y' => ((X2 x y x' y').fz (.head _)).1
  have k3 := fun x y x' y' => ((X2 x y x' y').fz (.head _)).2
  have k4 := fun x y x' y' => ((X2 x y x' y').pt (.tail _ (.head _))).1
  have k5 := fun x y x' y' => ((X2 x y x' y').pt (.tail _ (.head _))).2
  have k6 := fun x y x' y' => ((X2 x y x' y').fz (.tail _ (.head _))).1
  have k7 := fun x y x' y' => ((X2 x y x' y').fz (.tail _ (.head _))).2
  have HX2 := Lib.hid X2
  clear X1 X2
  go_region
  ·go_wp2
   go_meet
   exact ⟨_, _, rfl, rfl, (Hold.drew (HX2.out _ _ _ _)).tail, (Hold.drew (HX2.out _ _ _ _)).sub (List.Sublist.cons_cons _ (List.nil_sublist _))⟩
  ·go_wp2
   go_meet
   exact ⟨_, _, rfl, rfl, (Hold.drew (HX2.out _ _ _ _)).sub ((List.sublist_cons_self _ _).cons_cons _), (Hold.drew (HX2.out _ _ _ _)).tail.sub (List.Sublist.cons_cons _ (List.nil_sublist _))⟩
 case rest =>
  obtain ⟨g7, g8, rfl, rfl, HK, HK8⟩ := hcut
  clear HQ c0 c1 c2 c3
  obtain ⟨c0, c1, c2, c3⟩ := HK.win (.tail _ (.tail _ (.head _)))
  obtain ⟨d0, d1⟩ := HK.pt (.head _)
  obtain ⟨d2, d3⟩ := HK8.pt (.head _)
  obtain ⟨k0, k1, k2, k3, k4, k5, k6, k7, k8, k9, k10, k11⟩ := HK.rd12 (List.mem_cons_of_mem _ List.mem_cons_self)
  obtain ⟨z0, z1, z2, z3, z4, z5, z6, z7, z8, z9, z10, z11⟩ := HK.fz12 (List.mem_cons_of_mem _ List.mem_cons_self)
  go_wp2
  have HE := Hold.set12 (L1 := [_]) HK (.int .i64 L.1) (.int .i64 L.2) (.int .i64 H.1) (.int .i64 H.2) (.int .i64 L.1) (.int .i64 L.2) (.int .i64 H.1) (.int .i64 L.2) (.int .i64 H.1) (.int .i64 H.2) (.int .i64 L.1) (.int .i64 H.2)
  have HE' : Hold w [(g7, #[.int .i64 H.1, .int .i64 L.2], 28), (g1, #[.int .i64 L.1, .int .i64 L.2, .int .i64 H.1, .int .i64 H.2, .int .i64 L.1, .int .i64 L.2, .int .i64 H.1, .int .i64 L.2, .int .i64 H.1, .int .i64 H.2, .int .i64 L.1, .int .i64 H.2], 102), (g0, #[.int .i64 L.1, .int .i64 L.2, .int .i64 H.1, .int .i64 H.2], 30)] _ := HE
  obtain ⟨n0, n1, n2, n3, n4, n5, n6, n7, n8, n9, n10, n11⟩ := HE'.rd12 (List.mem_cons_of_mem _ List.mem_cons_self)
  refine bodyPost_ret (v := .tuple #[.agg #[.int .i64 L.1, .int .i64 L.2, .int .i64 H.1, .int .i64 H.2, .int .i64 L.1, .int .i64 L.2, .int .i64 H.1, .int .i64 L.2, .int .i64 H.1, .int .i64 H.2, .int .i64 L.1, .int .i64 H.2], .int .i64 0]) ?_ rfl ⟨rfl, HE.1⟩
  simp [results, Tryz.results37, go_sem, n0, n1, n2, n3, n4, n5, n6, n7, n8, n9, n10, n11]
end Go.Proofs.YtoabooljgojoiabGreat
