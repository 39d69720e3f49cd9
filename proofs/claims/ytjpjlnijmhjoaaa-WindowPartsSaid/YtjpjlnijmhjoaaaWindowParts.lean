/- The law WindowParts: a window that is cut into two, with a line in common, meets just what one of these meets. -/
import Derived.Test.YtjpjlnijmhjoaaaWinAns
namespace Go.Proofs.Ytjpjlnijmhjoaaa.windowParts
open Go.RowKit

/-- The three windows and both points, in the call's own blocks. -/
def Tri (w : World) (L H a b : Int × Int) (x : Int) (g5 g8 g9 g11 g12 : Nat) (W : World) : Prop := Hold w [(g9, #[.int .i64 b.1, .int .i64 b.2], 23), (g8, #[.int .i64 a.1, .int .i64 a.2], 23), (g5, #[.int .i64 L.1, .int .i64 L.2, .int .i64 H.1, .int .i64 H.2], 25)] W ∧ Hold w [(g11, #[.int .i64 L.1, .int .i64 L.2, .int .i64 x, .int .i64 H.2], 25)] W ∧ Hold w [(g12, #[.int .i64 x, .int .i64 L.2, .int .i64 H.1, .int .i64 H.2], 25)] W
section
variable {w W W' : World} {L H a b : Int × Int} {x : Int} {g5 g8 g9 g11 g12 : Nat}
theorem Tri.on (h : Tri w L H a b x g5 g8 g9 g11 g12 W) (hB : Below W.heap.size W W') : Tri w L H a b x g5 g8 g9 g11 g12 W' := ⟨h.1.on hB, h.2.1.on hB, h.2.2.on hB⟩
theorem Tri.drew (h : Tri w L H a b x g5 g8 g9 g11 g12 W) : Tri w L H a b x g5 g8 g9 g11 g12 W.drew := ⟨h.1.drew, h.2.1.drew, h.2.2.drew⟩
theorem keep1 (h : Tri w L H a b x g5 g8 g9 g11 g12 W) : W.cell? ⟨g5, 0, none⟩ = some (.int .i64 L.1) ∧ W.cell? ⟨g5, 1, none⟩ = some (.int .i64 L.2) ∧ W.cell? ⟨g5, 2, none⟩ = some (.int .i64 H.1) ∧ W.cell? ⟨g5, 3, none⟩ = some (.int .i64 H.2) := h.1.win (.tail _ (.tail _ (.head _)))
theorem keep2 (h : Tri w L H a b x g5 g8 g9 g11 g12 W) : W.cell? ⟨g11, 0, none⟩ = some (.int .i64 L.1) ∧ W.cell? ⟨g11, 1, none⟩ = some (.int .i64 L.2) ∧ W.cell? ⟨g11, 2, none⟩ = some (.int .i64 x) ∧ W.cell? ⟨g11, 3, none⟩ = some (.int .i64 H.2) := ⟨h.2.1.cell (.head _) 0, h.2.1.cell (.head _) 1, h.2.1.cell (.head _) 2, h.2.1.cell (.head _) 3⟩
theorem keep3 (h : Tri w L H a b x g5 g8 g9 g11 g12 W) : W.cell? ⟨g12, 0, none⟩ = some (.int .i64 x) ∧ W.cell? ⟨g12, 1, none⟩ = some (.int .i64 L.2) ∧ W.cell? ⟨g12, 2, none⟩ = some (.int .i64 H.1) ∧ W.cell? ⟨g12, 3, none⟩ = some (.int .i64 H.2) := ⟨h.2.2.cell (.head _) 0, h.2.2.cell (.head _) 1, h.2.2.cell (.head _) 2, h.2.2.cell (.head _) 3⟩
theorem rdT (h : Tri w L H a b x g5 g8 g9 g11 g12 W) : (W.cell? ⟨g5, 0, none⟩ = some (.int .i64 L.1) ∧ W.cell? ⟨g5, 1, none⟩ = some (.int .i64 L.2) ∧ W.cell? ⟨g5, 2, none⟩ = some (.int .i64 H.1) ∧ W.cell? ⟨g5, 3, none⟩ = some (.int .i64 H.2)) ∧ (W.cell? ⟨g11, 0, none⟩ = some (.int .i64 L.1) ∧ W.cell? ⟨g11, 1, none⟩ = some (.int .i64 L.2) ∧ W.cell? ⟨g11, 2, none⟩ = some (.int .i64 x) ∧ W.cell? ⟨g11, 3, none⟩ = some (.int .i64 H.2)) ∧ (W.cell? ⟨g12, 0, none⟩ = some (.int .i64 x) ∧ W.cell? ⟨g12, 1, none⟩ = some (.int .i64 L.2) ∧ W.cell? ⟨g12, 2, none⟩ = some (.int .i64 H.1) ∧ W.cell? ⟨g12, 3, none⟩ = some (.int .i64 H.2)) ∧ W.cell? ⟨g8, 0, none⟩ = some (.int .i64 a.1) ∧ W.cell? ⟨g8, 1, none⟩ = some (.int .i64 a.2) ∧ W.cell? ⟨g9, 0, none⟩ = some (.int .i64 b.1) ∧ W.cell? ⟨g9, 1, none⟩ = some (.int .i64 b.2) :=
  ⟨keep1 h, keep2 h, keep3 h, (h.1.pt (.tail _ (.head _))).1, (h.1.pt (.tail _ (.head _))).2, (h.1.pt (.head _)).1, (h.1.pt (.head _)).2⟩
theorem rd (h : Hold w [(g9, #[.int .i64 b.1, .int .i64 b.2], 23), (g8, #[.int .i64 a.1, .int .i64 a.2], 23), (g5, #[.int .i64 L.1, .int .i64 L.2, .int .i64 H.1, .int .i64 H.2], 25)] W) : (W.cell? ⟨g5, 0, none⟩ = some (.int .i64 L.1) ∧ W.cell? ⟨g5, 1, none⟩ = some (.int .i64 L.2) ∧ W.cell? ⟨g5, 2, none⟩ = some (.int .i64 H.1) ∧ W.cell? ⟨g5, 3, none⟩ = some (.int .i64 H.2)) ∧ W.cell? ⟨g8, 0, none⟩ = some (.int .i64 a.1) ∧ W.cell? ⟨g8, 1, none⟩ = some (.int .i64 a.2) ∧ W.cell? ⟨g9, 0, none⟩ = some (.int .i64 b.1) ∧ W.cell? ⟨g9, 1, none⟩ = some (.int .i64 b.2) :=
  ⟨h.win (.tail _ (.tail _ (.head _))), (h.pt (.tail _ (.head _))).1, (h.pt (.tail _ (.head _))).2, (h.pt (.head _)).1, (h.pt (.head _)).2⟩
end
section
variable {L H a b : Int × Int} {x : Int} {ps : List (Int × Int)} (he : wnE L H = 0) (h1 : L.1 ≤ x) (h2 : x ≤ H.1)
include he h1 h2
theorem parts_ok : wnE L (x, H.2) = 0 ∧ wnE (x, L.2) H = 0 := by
  obtain ⟨hg, hx, hy⟩ := wnE_zero.1 he
  obtain ⟨⟨l1, l2, l3, l4⟩, k1, k2, k3, k4⟩ := gdL_two.1 hg
  exact ⟨wnE_zero.2 ⟨gdL_two.2 ⟨⟨l1, l2, l3, l4⟩, by unfold Gd; simp only; omega⟩, h1, hy⟩, wnE_zero.2 ⟨gdL_two.2 ⟨by unfold Gd; simp only; omega, k1, k2, k3, k4⟩, h2, hy⟩⟩
theorem parts_errors : frE L (x, H.2) [a, b] = frE L H [a, b] ∧ frE (x, L.2) H [a, b] = frE L H [a, b] ∧ meE L (x, H.2) ps = meE L H ps ∧ meE (x, L.2) H ps = meE L H ps := by
  obtain ⟨hu, hv⟩ := parts_ok he h1 h2
  unfold frE meE
  rw [hu, hv, he]
  exact ⟨rfl, rfl, rfl, rfl⟩
theorem parts_cuts : cuV L H a b = (cuV L (x, H.2) a b || cuV (x, L.2) H a b) := by
  obtain ⟨e1, e2, -⟩ := parts_errors (a := a) (b := b) (ps := []) he h1 h2
  unfold cuV
  rw [e1, e2]
  by_cases h : frE L H [a, b] = 0
  · rw [if_pos h, if_pos h, if_pos h, Bool.eq_iff_iff, Bool.or_eq_true, cutV_iff, cutV_iff, cutV_iff]
    exact cut_parts h1 h2
  · rw [if_neg h, if_neg h, if_neg h]; rfl
theorem parts_meets : meV L H ps = (meV L (x, H.2) ps || meV (x, L.2) H ps) := by
  obtain ⟨-, -, e1, e2⟩ := parts_errors (a := (0, 0)) (b := (0, 0)) (ps := ps) he h1 h2
  unfold meV
  rw [e1, e2]
  by_cases h : meE L H ps = 0
  · have hc : chE ps = 0 := by unfold meE at h; rw [if_neg (by omega)] at h; exact h
    rw [if_pos h, if_pos h, if_pos h, Bool.eq_iff_iff, Bool.or_eq_true, metV_iff, metV_iff, metV_iff]
    exact met_parts (chE_zero.1 hc).2 (wnE_zero.1 he).2 h1 h2
  · rw [if_neg h, if_neg h, if_neg h]; rfl
end

theorem two_new {w W : World} {L H a b : Int × Int} {g5 g8 g9 : Nat} (h : Hold w [(g9, #[.int .i64 b.1, .int .i64 b.2], 23), (g8, #[.int .i64 a.1, .int .i64 a.2], 23), (g5, #[.int .i64 L.1, .int .i64 L.2, .int .i64 H.1, .int .i64 H.2], 25)] W) : (∀ y0 y1 y2 y3, (W.alloc (Obj.cells #[y0, y1, y2, y3] 25)).cell? ⟨g5, 0, none⟩ = some (.int .i64 L.1)) ∧ (∀ y0 y1 y2 y3, (W.alloc (Obj.cells #[y0, y1, y2, y3] 25)).cell? ⟨g5, 1, none⟩ = some (.int .i64 L.2)) ∧ (∀ y0 y1 y2 y3, (W.alloc (Obj.cells #[y0, y1, y2, y3] 25)).cell? ⟨g5, 2, none⟩ = some (.int .i64 H.1)) ∧ (∀ y0 y1 y2 y3, (W.alloc (Obj.cells #[y0, y1, y2, y3] 25)).cell? ⟨g5, 3, none⟩ = some (.int .i64 H.2)) ∧ (∀ y0 y1 y2 y3 z0 z1 z2 z3, ((W.alloc (Obj.cells #[y0, y1, y2, y3] 25)).alloc (Obj.cells #[z0, z1, z2, z3] 25)).cell? ⟨g5, 0, none⟩ = some (.int .i64 L.1)) ∧ (∀ y0 y1 y2 y3 z0 z1 z2 z3, ((W.alloc (Obj.cells #[y0, y1, y2, y3] 25)).alloc (Obj.cells #[z0, z1, z2, z3] 25)).cell? ⟨g5, 1, none⟩ = some (.int .i64 L.2)) ∧ (∀ y0 y1 y2 y3 z0 z1 z2 z3, ((W.alloc (Obj.cells #[y0, y1, y2, y3] 25)).alloc (Obj.cells #[z0, z1, z2, z3] 25)).cell? ⟨g5, 2, none⟩ = some (.int .i64 H.1)) ∧ (∀ y0 y1 y2 y3 z0 z1 z2 z3, ((W.alloc (Obj.cells #[y0, y1, y2, y3] 25)).alloc (Obj.cells #[z0, z1, z2, z3] 25)).cell? ⟨g5, 3, none⟩ = some (.int .i64 H.2)) ∧ (∀ y0 y1 y2 y3 z0 z1 z2 z3, ((W.alloc (Obj.cells #[y0, y1, y2, y3] 25)).alloc (Obj.cells #[z0, z1, z2, z3] 25)).cell? ⟨W.heap.size, 0, none⟩ = some y0) ∧ (∀ y0 y1 y2 y3 z0 z1 z2 z3, ((W.alloc (Obj.cells #[y0, y1, y2, y3] 25)).alloc (Obj.cells #[z0, z1, z2, z3] 25)).cell? ⟨W.heap.size + 1, 0, none⟩ = some z0) ∧ (∀ y0 y1 y2 y3 z0 z1 z2 z3, ((W.alloc (Obj.cells #[y0, y1, y2, y3] 25)).alloc (Obj.cells #[z0, z1, z2, z3] 25)).frozen? ⟨W.heap.size, 0, none⟩ = false) ∧ (∀ y0 y1 y2 y3 z0 z1 z2 z3, ((W.alloc (Obj.cells #[y0, y1, y2, y3] 25)).alloc (Obj.cells #[z0, z1, z2, z3] 25)).frozen? ⟨W.heap.size + 1, 0, none⟩ = false) ∧ (∀ y0 y1 y2 y3 z0 z1 z2 z3, ((W.alloc (Obj.cells #[y0, y1, y2, y3] 25)).alloc (Obj.cells #[z0, z1, z2, z3] 25)).cell? ⟨W.heap.size, 1, none⟩ = some y1) ∧ (∀ y0 y1 y2 y3 z0 z1 z2 z3, ((W.alloc (Obj.cells #[y0, y1, y2, y3] 25)).alloc (Obj.cells #[z0, z1, z2, z3] 25)).cell? ⟨W.heap.size + 1, 1, none⟩ = some z1) ∧ (∀ y0 y1 y2 y3 z0 z1 z2 z3, ((W.alloc (Obj.cells #[y0, y1, y2, y3] 25)).alloc (Obj.cells #[z0, z1, z2, z3] 25)).frozen? ⟨W.heap.size, 1, none⟩ = false) ∧ (∀ y0 y1 y2 y3 z0 z1 z2 z3, ((W.alloc (Obj.cells #[y0, y1, y2, y3] 25)).alloc (Obj.cells #[z0, z1, z2, z3] 25)).frozen? ⟨W.heap.size + 1, 1, none⟩ = false) ∧ (∀ y0 y1 y2 y3 z0 z1 z2 z3, ((W.alloc (Obj.cells #[y0, y1, y2, y3] 25)).alloc (Obj.cells #[z0, z1, z2, z3] 25)).cell? ⟨W.heap.size, 2, none⟩ = some y2) ∧ (∀ y0 y1 y2 y3 z0 z1 z2 z3, ((W.alloc (Obj.cells #[y0, y1, y2, y3] 25)).alloc (Obj.cells #[z0, z1, z2, z3] 25)).cell? ⟨W.heap.size + 1, 2, none⟩ = some z2) ∧ (∀ y0 y1 y2 y3 z0 z1 z2 z3, ((W.alloc (Obj.cells #[y0, y1, y2, y3] 25)).alloc (Obj.cells #[z0, z1, z2, z3] 25)).frozen? ⟨W.heap.size, 2, none⟩ = false) ∧ (∀ y0 y1 y2 y3 z0 z1 z2 z3, ((W.alloc (Obj.cells #[y0, y1, y2, y3] 25)).alloc (Obj.cells #[z0, z1, z2, z3] 25)).frozen? ⟨W.heap.size + 1, 2, none⟩ = false) ∧ (∀ y0 y1 y2 y3 z0 z1 z2 z3, ((W.alloc (Obj.cells #[y0, y1, y2, y3] 25)).alloc (Obj.cells #[z0, z1, z2, z3] 25)).cell? ⟨W.heap.size, 3, none⟩ = some y3) ∧ (∀ y0 y1 y2 y3 z0 z1 z2 z3, ((W.alloc (Obj.cells #[y0, y1, y2, y3] 25)).alloc (Obj.cells #[z0, z1, z2, z3] 25)).cell? ⟨W.heap.size + 1, 3, none⟩ = some z3) ∧ (∀ y0 y1 y2 y3 z0 z1 z2 z3, ((W.alloc (Obj.cells #[y0, y1, y2, y3] 25)).alloc (Obj.cells #[z0, z1, z2, z3] 25)).frozen? ⟨W.heap.size, 3, none⟩ = false) ∧ (∀ y0 y1 y2 y3 z0 z1 z2 z3, ((W.alloc (Obj.cells #[y0, y1, y2, y3] 25)).alloc (Obj.cells #[z0, z1, z2, z3] 25)).frozen? ⟨W.heap.size + 1, 3, none⟩ = false) ∧ ¬ g5 = W.heap.size ∧ ¬ g5 = W.heap.size + 1 :=
  ⟨fun y0 y1 y2 y3 => (h.new #[y0, y1, y2, y3] 25).cell (.tail _ (.tail _ (.tail _ (.head _)))) 0, fun y0 y1 y2 y3 => (h.new #[y0, y1, y2, y3] 25).cell (.tail _ (.tail _ (.tail _ (.head _)))) 1, fun y0 y1 y2 y3 => (h.new #[y0, y1, y2, y3] 25).cell (.tail _ (.tail _ (.tail _ (.head _)))) 2, fun y0 y1 y2 y3 => (h.new #[y0, y1, y2, y3] 25).cell (.tail _ (.tail _ (.tail _ (.head _)))) 3, fun y0 y1 y2 y3 z0 z1 z2 z3 => ((h.new #[y0, y1, y2, y3] 25).new' #[z0, z1, z2, z3] 25 (n := W.heap.size + 1) (by simp only [World.size_alloc])).cell (.tail _ (.tail _ (.tail _ (.tail _ (.head _))))) 0, fun y0 y1 y2 y3 z0 z1 z2 z3 => ((h.new #[y0, y1, y2, y3] 25).new' #[z0, z1, z2, z3] 25 (n := W.heap.size + 1) (by simp only [World.size_alloc])).cell (.tail _ (.tail _ (.tail _ (.tail _ (.head _))))) 1, fun y0 y1 y2 y3 z0 z1 z2 z3 => ((h.new #[y0, y1, y2, y3] 25).new' #[z0, z1, z2, z3] 25 (n := W.heap.size + 1) (by simp only [World.size_alloc])).cell (.tail _ (.tail _ (.tail _ (.tail _ (.head _))))) 2, fun y0 y1 y2 y3 z0 z1 z2 z3 => ((h.new #[y0, y1, y2, y3] 25).new' #[z0, z1, z2, z3] 25 (n := W.heap.size + 1) (by simp only [World.size_alloc])).cell (.tail _ (.tail _ (.tail _ (.tail _ (.head _))))) 3, fun y0 y1 y2 y3 z0 z1 z2 z3 => ((h.new #[y0, y1, y2, y3] 25).new' #[z0, z1, z2, z3] 25 (n := W.heap.size + 1) (by simp only [World.size_alloc])).cell (.tail _ (.head _)) 0, fun y0 y1 y2 y3 z0 z1 z2 z3 => ((h.new #[y0, y1, y2, y3] 25).new' #[z0, z1, z2, z3] 25 (n := W.heap.size + 1) (by simp only [World.size_alloc])).cell (.head _) 0, fun y0 y1 y2 y3 z0 z1 z2 z3 => ((h.new #[y0, y1, y2, y3] 25).new' #[z0, z1, z2, z3] 25 (n := W.heap.size + 1) (by simp only [World.size_alloc])).frozen (.tail _ (.head _)) 0, fun y0 y1 y2 y3 z0 z1 z2 z3 => ((h.new #[y0, y1, y2, y3] 25).new' #[z0, z1, z2, z3] 25 (n := W.heap.size + 1) (by simp only [World.size_alloc])).frozen (.head _) 0, fun y0 y1 y2 y3 z0 z1 z2 z3 => ((h.new #[y0, y1, y2, y3] 25).new' #[z0, z1, z2, z3] 25 (n := W.heap.size + 1) (by simp only [World.size_alloc])).cell (.tail _ (.head _)) 1, fun y0 y1 y2 y3 z0 z1 z2 z3 => ((h.new #[y0, y1, y2, y3] 25).new' #[z0, z1, z2, z3] 25 (n := W.heap.size + 1) (by simp only [World.size_alloc])).cell (.head _) 1, fun y0 y1 y2 y3 z0 z1 z2 z3 => ((h.new #[y0, y1, y2, y3] 25).new' #[z0, z1, z2, z3] 25 (n := W.heap.size + 1) (by simp only [World.size_alloc])).frozen (.tail _ (.head _)) 1, fun y0 y1 y2 y3 z0 z1 z2 z3 => ((h.new #[y0, y1, y2, y3] 25).new' #[z0, z1, z2, z3] 25 (n := W.heap.size + 1) (by simp only [World.size_alloc])).frozen (.head _) 1, fun y0 y1 y2 y3 z0 z1 z2 z3 => ((h.new #[y0, y1, y2, y3] 25).new' #[z0, z1, z2, z3] 25 (n := W.heap.size + 1) (by simp only [World.size_alloc])).cell (.tail _ (.head _)) 2, fun y0 y1 y2 y3 z0 z1 z2 z3 => ((h.new #[y0, y1, y2, y3] 25).new' #[z0, z1, z2, z3] 25 (n := W.heap.size + 1) (by simp only [World.size_alloc])).cell (.head _) 2, fun y0 y1 y2 y3 z0 z1 z2 z3 => ((h.new #[y0, y1, y2, y3] 25).new' #[z0, z1, z2, z3] 25 (n := W.heap.size + 1) (by simp only [World.size_alloc])).frozen (.tail _ (.head _)) 2, fun y0 y1 y2 y3 z0 z1 z2 z3 => ((h.new #[y0, y1, y2, y3] 25).new' #[z0, z1, z2, z3] 25 (n := W.heap.size + 1) (by simp only [World.size_alloc])).frozen (.head _) 2, fun y0 y1 y2 y3 z0 z1 z2 z3 => ((h.new #[y0, y1, y2, y3] 25).new' #[z0, z1, z2, z3] 25 (n := W.heap.size + 1) (by simp only [World.size_alloc])).cell (.tail _ (.head _)) 3, fun y0 y1 y2 y3 z0 z1 z2 z3 => ((h.new #[y0, y1, y2, y3] 25).new' #[z0, z1, z2, z3] 25 (n := W.heap.size + 1) (by simp only [World.size_alloc])).cell (.head _) 3, fun y0 y1 y2 y3 z0 z1 z2 z3 => ((h.new #[y0, y1, y2, y3] 25).new' #[z0, z1, z2, z3] 25 (n := W.heap.size + 1) (by simp only [World.size_alloc])).frozen (.tail _ (.head _)) 3, fun y0 y1 y2 y3 z0 z1 z2 z3 => ((h.new #[y0, y1, y2, y3] 25).new' #[z0, z1, z2, z3] 25 (n := W.heap.size + 1) (by simp only [World.size_alloc])).frozen (.head _) 3, Nat.ne_of_lt (h.lt (.tail _ (.tail _ (.head _)))), fun e => by have := h.lt (.tail _ (.tail _ (.head _))); omega⟩
theorem two_hold {w W : World} {L H a b : Int × Int} {g5 g8 g9 : Nat} (h : Hold w [(g9, #[.int .i64 b.1, .int .i64 b.2], 23), (g8, #[.int .i64 a.1, .int .i64 a.2], 23), (g5, #[.int .i64 L.1, .int .i64 L.2, .int .i64 H.1, .int .i64 H.2], 25)] W) (y0 y1 y2 y3 z0 z1 z2 z3 : Value) : Hold w [(W.heap.size + 1, #[z0, z1, z2, z3], 25), (W.heap.size, #[y0, y1, y2, y3], 25), (g9, #[.int .i64 b.1, .int .i64 b.2], 23), (g8, #[.int .i64 a.1, .int .i64 a.2], 23), (g5, #[.int .i64 L.1, .int .i64 L.2, .int .i64 H.1, .int .i64 H.2], 25)] ((W.alloc (Obj.cells #[y0, y1, y2, y3] 25)).alloc (Obj.cells #[z0, z1, z2, z3] 25)) :=
  ((h.new #[y0, y1, y2, y3] 25).new' #[z0, z1, z2, z3] 25 (n := W.heap.size + 1) (by simp only [World.size_alloc]))
set_option maxRecDepth 100000 in
set_option maxHeartbeats 8000000 in
theorem walk_bad (L H a b : Int × Int) (x : Int) (ps : List (Int × Int)) (A : Option Addr) (cap : Nat) (he : wnE L H ≠ 0) (_hb : ps.length * 16 ≤ 140737488355328) (_hnil : NilOk A cap) (w : World) (_hr : Pts w w.heap.size A ps) :
    Calls Try.prog 7 #[.agg #[.int .i64 L.1, .int .i64 L.2, .int .i64 H.1, .int .i64 H.2], .int .i64 x, .slice A ps.length cap, .agg #[.int .i64 a.1, .int .i64 a.2], .agg #[.int .i64 b.1, .int .i64 b.2]] w fun e w' => e = .returned (.bool true) ∧ Below w.heap.size w w' := by
  have HOK := Lib.hid (fun W => ref_windowOK L H W)
  have en : (wnE L H != 0) = true := by simpa using he
  clear _hr _hnil _hb he
  generalize wnE L H = y at *
  have HQ := (((Hold.refl w).new #[.int .i64 L.1, .int .i64 L.2, .int .i64 H.1, .int .i64 H.2] 25).new' #[.int .i64 a.1, .int .i64 a.2] 23 (n := w.heap.size + 1) (by simp)).new' #[.int .i64 b.1, .int .i64 b.2] 23 (n := w.heap.size + 1 + 1) (by simp)
  go_enter Try.func7, Try.ntmps7
  go_upto_region 1 with (fail)
  generalize (World.alloc _ _) = W0 at HQ ⊢
  generalize w.heap.size + 1 + 1 = g9 at HQ ⊢
  generalize w.heap.size + 1 = g8 at HQ ⊢
  obtain ⟨g5, hg5⟩ : ∃ g, w.heap.size = g := ⟨_, rfl⟩
  rw [hg5] at HQ ⊢
  have HG5 := Lib.hid hg5
  clear hg5
  obtain ⟨⟨c0, c1, c2, c3⟩, d0, d1, d2, d3⟩ := rd HQ
  go_wp2_with (first
    | (go_at_call 11; go_must ((first | (with_reducible refine (win_answers _).mono ?_)); rintro e w' ⟨rfl, hB⟩; replace HQ := HQ.on hB; clear hB c0 c1 c2 c3 d0 d1 d2 d3; obtain ⟨⟨c0, c1, c2, c3⟩, d0, d1, d2, d3⟩ := rd HQ))
    | (go_at_call 9; go_must ((first | (with_reducible refine (HOK.out _).mono ?_)); rintro e w' ⟨rfl, hB⟩; replace HQ := HQ.on hB; clear hB c0 c1 c2 c3 d0 d1 d2 d3; obtain ⟨⟨c0, c1, c2, c3⟩, d0, d1, d2, d3⟩ := rd HQ)))
  have HB := Lib.hid HQ.1
  clear HQ c0 c1 c2 c3 d0 d1 d2 d3
  go_ret
  exact ⟨rfl, HB.out⟩
set_option maxRecDepth 100000 in
set_option maxHeartbeats 8000000 in
theorem walk_low (L H a b : Int × Int) (x : Int) (ps : List (Int × Int)) (A : Option Addr) (cap : Nat) (he : wnE L H = 0) (h1 : x < L.1) (_hb : ps.length * 16 ≤ 140737488355328) (_hnil : NilOk A cap) (w : World) (_hr : Pts w w.heap.size A ps) :
    Calls Try.prog 7 #[.agg #[.int .i64 L.1, .int .i64 L.2, .int .i64 H.1, .int .i64 H.2], .int .i64 x, .slice A ps.length cap, .agg #[.int .i64 a.1, .int .i64 a.2], .agg #[.int .i64 b.1, .int .i64 b.2]] w fun e w' => e = .returned (.bool true) ∧ Below w.heap.size w w' := by
  have HOK := Lib.hid (fun W => ref_windowOK L H W)
  rw [he] at HOK
  clear _hr _hnil _hb he
  have HQ := (((Hold.refl w).new #[.int .i64 L.1, .int .i64 L.2, .int .i64 H.1, .int .i64 H.2] 25).new' #[.int .i64 a.1, .int .i64 a.2] 23 (n := w.heap.size + 1) (by simp)).new' #[.int .i64 b.1, .int .i64 b.2] 23 (n := w.heap.size + 1 + 1) (by simp)
  go_enter Try.func7, Try.ntmps7
  go_upto_region 1 with (fail)
  generalize (World.alloc _ _) = W0 at HQ ⊢
  generalize w.heap.size + 1 + 1 = g9 at HQ ⊢
  generalize w.heap.size + 1 = g8 at HQ ⊢
  obtain ⟨g5, hg5⟩ : ∃ g, w.heap.size = g := ⟨_, rfl⟩
  rw [hg5] at HQ ⊢
  have HG5 := Lib.hid hg5
  clear hg5
  obtain ⟨⟨c0, c1, c2, c3⟩, d0, d1, d2, d3⟩ := rd HQ
  go_wp2_with (first
    | (go_at_call 11; go_must ((first | (with_reducible refine (win_answers _).mono ?_)); rintro e w' ⟨rfl, hB⟩; replace HQ := HQ.on hB; clear hB c0 c1 c2 c3 d0 d1 d2 d3; obtain ⟨⟨c0, c1, c2, c3⟩, d0, d1, d2, d3⟩ := rd HQ))
    | (go_at_call 9; go_must ((first | (with_reducible refine (HOK.out _).mono ?_)); rintro e w' ⟨rfl, hB⟩; replace HQ := HQ.on hB; clear hB c0 c1 c2 c3 d0 d1 d2 d3; obtain ⟨⟨c0, c1, c2, c3⟩, d0, d1, d2, d3⟩ := rd HQ)))
  have HB := Lib.hid HQ.1
  clear HQ c0 c1 c2 c3 d0 d1 d2 d3
  go_ret
  exact ⟨rfl, HB.out⟩
set_option maxRecDepth 100000 in
set_option maxHeartbeats 8000000 in
theorem walk_high (L H a b : Int × Int) (x : Int) (ps : List (Int × Int)) (A : Option Addr) (cap : Nat) (he : wnE L H = 0) (h1 : ¬ x < L.1) (h2 : H.1 < x) (_hb : ps.length * 16 ≤ 140737488355328) (_hnil : NilOk A cap) (w : World) (_hr : Pts w w.heap.size A ps) :
    Calls Try.prog 7 #[.agg #[.int .i64 L.1, .int .i64 L.2, .int .i64 H.1, .int .i64 H.2], .int .i64 x, .slice A ps.length cap, .agg #[.int .i64 a.1, .int .i64 a.2], .agg #[.int .i64 b.1, .int .i64 b.2]] w fun e w' => e = .returned (.bool true) ∧ Below w.heap.size w w' := by
  have HOK := Lib.hid (fun W => ref_windowOK L H W)
  rw [he] at HOK
  clear _hr _hnil _hb he
  have HQ := (((Hold.refl w).new #[.int .i64 L.1, .int .i64 L.2, .int .i64 H.1, .int .i64 H.2] 25).new' #[.int .i64 a.1, .int .i64 a.2] 23 (n := w.heap.size + 1) (by simp)).new' #[.int .i64 b.1, .int .i64 b.2] 23 (n := w.heap.size + 1 + 1) (by simp)
  go_enter Try.func7, Try.ntmps7
  go_upto_region 1 with (fail)
  generalize (World.alloc _ _) = W0 at HQ ⊢
  generalize w.heap.size + 1 + 1 = g9 at HQ ⊢
  generalize w.heap.size + 1 = g8 at HQ ⊢
  obtain ⟨g5, hg5⟩ : ∃ g, w.heap.size = g := ⟨_, rfl⟩
  rw [hg5] at HQ ⊢
  have HG5 := Lib.hid hg5
  clear hg5
  obtain ⟨⟨c0, c1, c2, c3⟩, d0, d1, d2, d3⟩ := rd HQ
  go_wp2_with (first
    | (go_at_call 11; go_must ((first | (with_reducible refine (win_answers _).mono ?_)); rintro e w' ⟨rfl, hB⟩; replace HQ := HQ.on hB; clear hB c0 c1 c2 c3 d0 d1 d2 d3; obtain ⟨⟨c0, c1, c2, c3⟩, d0, d1, d2, d3⟩ := rd HQ))
    | (go_at_call 9; go_must ((first | (with_reducible refine (HOK.out _).mono ?_)); rintro e w' ⟨rfl, hB⟩; replace HQ := HQ.on hB; clear hB c0 c1 c2 c3 d0 d1 d2 d3; obtain ⟨⟨c0, c1, c2, c3⟩, d0, d1, d2, d3⟩ := rd HQ)))
  have HB := Lib.hid HQ.1
  clear HQ c0 c1 c2 c3 d0 d1 d2 d3
  go_ret
  exact ⟨rfl, HB.out⟩
set_option maxRecDepth 100000 in
set_option maxHeartbeats 8000000 in
theorem walk_good (L H a b : Int × Int) (x : Int) (ps : List (Int × Int)) (A : Option Addr) (cap : Nat) (he : wnE L H = 0) (h1 : ¬ x < L.1) (h2 : ¬ H.1 < x) (hb : ps.length * 16 ≤ 140737488355328) (hnil : NilOk A cap) (w : World) (hr : Pts w w.heap.size A ps) :
    Calls Try.prog 7 #[.agg #[.int .i64 L.1, .int .i64 L.2, .int .i64 H.1, .int .i64 H.2], .int .i64 x, .slice A ps.length cap, .agg #[.int .i64 a.1, .int .i64 a.2], .agg #[.int .i64 b.1, .int .i64 b.2]] w fun e w' => e = .returned (.bool true) ∧ Below w.heap.size w w' := by
  have HOK := Lib.hid (fun W => ref_windowOK L H W)
  have HN := Lib.hid (ps_len hb)
  have HOWN := Lib.hid (fun g5 g8 g9 g11 g12 W (h : Tri w L H a b x g5 g8 g9 g11 g12 W) => own_any ps A cap W (hr.on h.1.1) hnil hb)
  obtain ⟨e1, e2, e3, e4⟩ := parts_errors (a := a) (b := b) (ps := ps) he (Int.not_lt.1 h1) (Int.not_lt.1 h2)
  have HME := Lib.hid (fun A1 c1 W h => Meets_any L H ps A1 c1 HN.out W h)
  have HMU := Lib.hid (fun A1 c1 W h => Meets_any L (x, H.2) ps A1 c1 HN.out W h)
  have HMV := Lib.hid (fun A1 c1 W h => Meets_any (x, L.2) H ps A1 c1 HN.out W h)
  have HC := Lib.hid (fun W => Cuts_any L H a b W)
  have HCU := Lib.hid (fun W => Cuts_any L (x, H.2) a b W)
  have HCV := Lib.hid (fun W => Cuts_any (x, L.2) H a b W)
  rw [e1] at HCU
  rw [e2] at HCV
  rw [e3] at HMU
  rw [e4] at HMV
  rw [parts_cuts he (Int.not_lt.1 h1) (Int.not_lt.1 h2)] at HC
  rw [parts_meets he (Int.not_lt.1 h1) (Int.not_lt.1 h2)] at HME
  rw [he] at HOK
  clear hr hnil hb he e1 e2 e3 e4
  generalize cuV L (x, H.2) a b = cu at *
  generalize cuV (x, L.2) H a b = cv at *
  generalize meV L (x, H.2) ps = mu at *
  generalize meV (x, L.2) H ps = mv at *
  generalize frE L H [a, b] = fe at *
  generalize meE L H ps = me at *
  have HQ := (((Hold.refl w).new #[.int .i64 L.1, .int .i64 L.2, .int .i64 H.1, .int .i64 H.2] 25).new' #[.int .i64 a.1, .int .i64 a.2] 23 (n := w.heap.size + 1) (by simp)).new' #[.int .i64 b.1, .int .i64 b.2] 23 (n := w.heap.size + 1 + 1) (by simp)
  go_enter Try.func7, Try.ntmps7
  go_upto_region 1 with (fail)
  generalize (World.alloc _ _) = W0 at HQ ⊢
  generalize w.heap.size + 1 + 1 = g9 at HQ ⊢
  generalize w.heap.size + 1 = g8 at HQ ⊢
  obtain ⟨g5, hg5⟩ : ∃ g, w.heap.size = g := ⟨_, rfl⟩
  rw [hg5] at HQ ⊢
  have HG5 := Lib.hid hg5
  clear hg5
  obtain ⟨⟨c0, c1, c2, c3⟩, d0, d1, d2, d3⟩ := rd HQ
  go_upto_region 3 with (first
    | (go_at_call 11; go_must ((first | (with_reducible refine (win_answers _).mono ?_)); rintro e w' ⟨rfl, hB⟩; replace HQ := HQ.on hB; clear hB c0 c1 c2 c3 d0 d1 d2 d3; obtain ⟨⟨c0, c1, c2, c3⟩, d0, d1, d2, d3⟩ := rd HQ))
    | (go_at_call 9; go_must ((first | (with_reducible refine (HOK.out _).mono ?_)); rintro e w' ⟨rfl, hB⟩; replace HQ := HQ.on hB; clear hB c0 c1 c2 c3 d0 d1 d2 d3; obtain ⟨⟨c0, c1, c2, c3⟩, d0, d1, d2, d3⟩ := rd HQ)))
  clear c0 c1 c2 c3 d0 d1 d2 d3 HOK h1 h2

  go_cut [11, 12] (fun s11 s12 wx => ∃ g11 g12, s11 = .pointer (some ⟨g11, 0, none⟩) ∧ s12 = .pointer (some ⟨g12, 0, none⟩) ∧ (Hold w [(g11, #[.int .i64 L.1, .int .i64 L.2, .int .i64 H.1, .int .i64 H.2], 25), (g12, #[.int .i64 L.1, .int .i64 L.2, .int .i64 H.1, .int .i64 H.2], 25), (g9, #[.int .i64 b.1, .int .i64 b.2], 23), (g8, #[.int .i64 a.1, .int .i64 a.2], 23), (g5, #[.int .i64 L.1, .int .i64 L.2, .int .i64 H.1, .int .i64 H.2], 25)] wx ∨ Hold w [(g12, #[.int .i64 L.1, .int .i64 L.2, .int .i64 H.1, .int .i64 H.2], 25), (g11, #[.int .i64 L.1, .int .i64 L.2, .int .i64 H.1, .int .i64 H.2], 25), (g9, #[.int .i64 b.1, .int .i64 b.2], 23), (g8, #[.int .i64 a.1, .int .i64 a.2], 23), (g5, #[.int .i64 L.1, .int .i64 L.2, .int .i64 H.1, .int .i64 H.2], 25)] wx))
  case first =>
    have HH := Lib.hid (two_hold HQ)
    obtain ⟨f0, f1, f2, f3, f4, f5, f6, f7, f8, f9, f10, f11, f12, f13, f14, f15, f16, f17, f18, f19, f20, f21, f22, f23, f24, f25⟩ := two_new HQ
    obtain ⟨⟨c0, c1, c2, c3⟩, d0, d1, d2, d3⟩ := rd HQ
    clear HQ HN HOWN HME HMU HMV HC HCU HCV d0 d1 d2 d3
    go_region
    · go_wp2
      go_meet
      exact ⟨_, _, rfl, rfl, .inr (Hold.drew (HH.out _ _ _ _ _ _ _ _))⟩
    · go_wp2
      go_meet
      exact ⟨_, _, rfl, rfl, .inl (Hold.drew (HH.out _ _ _ _ _ _ _ _))⟩
  case rest =>
    clear HQ
    obtain ⟨g11, g12, rfl, rfl, hh⟩ := hcut
    go_upto_region 4 with (fail)
    go_cut [51] (fun _ wx => Tri w L H a b x g5 g8 g9 g11 g12 wx)
    case first =>
      clear HN HOWN HME HMU HMV HC HCU HCV
      rcases hh with HK | HK
      · have HP1 := Hold.put (L1 := []) HK 2 (.int .i64 x)
        have HP2 := Hold.put (L1 := [_]) HP1 0 (.int .i64 x)
        have k0 := HK.cell (.head _) 2
        have k1 := HK.frozen (.head _) 2
        have k2 := HP1.cell (.tail _ (.head _)) 0
        have k3 := HP1.frozen (.tail _ (.head _)) 0
        simp only [List.getElem?_toArray, List.getElem?_cons_zero, List.getElem?_cons_succ] at k0 k2
        go_wp2
        go_meet
        exact ⟨HP2.tail.tail, HP2.sub (List.Sublist.cons_cons _ (List.nil_sublist _)), HP2.tail.sub (List.Sublist.cons_cons _ (List.nil_sublist _))⟩
      · have HP1 := Hold.put (L1 := [_]) HK 2 (.int .i64 x)
        have HP2 := Hold.put (L1 := []) HP1 0 (.int .i64 x)
        have k0 := HK.cell (.tail _ (.head _)) 2
        have k1 := HK.frozen (.tail _ (.head _)) 2
        have k2 := HP1.cell (.head _) 0
        have k3 := HP1.frozen (.head _) 0
        simp only [List.getElem?_toArray, List.getElem?_cons_zero, List.getElem?_cons_succ] at k0 k2
        go_wp2
        go_meet
        exact ⟨HP2.tail.tail, HP2.tail.sub (List.Sublist.cons_cons _ (List.nil_sublist _)), HP2.sub (List.Sublist.cons_cons _ (List.nil_sublist _))⟩
    case rest =>
      have HQ : Tri w L H a b x g5 g8 g9 g11 g12 _ := hcut
      clear hcut hh
      obtain ⟨⟨c0, c1, c2, c3⟩, ⟨u0, u1, u2, u3⟩, ⟨v0, v1, v2, v3⟩, d0, d1, d2, d3⟩ := rdT HQ
      go_upto_region 5 with (fail)
      go_cut [13, 14] (fun sv se wx => sv = .bool (mu || mv) ∧ se = .int .i64 me ∧ Tri w L H a b x g5 g8 g9 g11 g12 wx)
      case first =>
        clear HMU HMV HC HCU HCV
        go_region_held3 (fun W => W.cell? ⟨g5, 0, none⟩ = some (.int .i64 L.1) ∧ W.cell? ⟨g5, 1, none⟩ = some (.int .i64 L.2) ∧ W.cell? ⟨g5, 2, none⟩ = some (.int .i64 H.1) ∧ W.cell? ⟨g5, 3, none⟩ = some (.int .i64 H.2)) (first | exact keep1 (by assumption) | exact keep1 (Tri.drew (by assumption))) (first
          | (go_at_call 19; (with_reducible refine (HOWN.out g5 g8 g9 g11 g12 _ (by first | assumption | exact Tri.drew (by assumption))).mono ?_); rintro e w' ⟨v, rfl, HV⟩; obtain ⟨A1, c1, rfl, hp1⟩ := HV.pts; have HS' := Tri.on (by first | assumption | exact Tri.drew (by assumption)) HV.1; have HP1 := Lib.hid hp1; clear hp1 HV)
          | (go_at_call 18; (with_reducible refine (HME.out _ _ _ HP1.out).mono ?_); rintro e w' ⟨rfl, hB⟩; have HS' := Tri.on (by assumption) hB))
        go_wp2_with fail
        go_meet
        exact ⟨rfl, rfl, HS'⟩
      case rest =>
        obtain ⟨rfl, rfl, HT⟩ := hcut
        clear HQ c0 c1 c2 c3 u0 u1 u2 u3 v0 v1 v2 v3 d0 d1 d2 d3 HME
        have HQ := HT
        clear HT
        obtain ⟨⟨c0, c1, c2, c3⟩, ⟨u0, u1, u2, u3⟩, ⟨v0, v1, v2, v3⟩, d0, d1, d2, d3⟩ := rdT HQ
        go_upto_region 6 with (fail)
        go_cut [15, 16] (fun sv se wx => sv = .bool mu ∧ se = .int .i64 me ∧ Tri w L H a b x g5 g8 g9 g11 g12 wx)
        case first =>
          clear HMV HC HCU HCV
          go_region_held3 (fun W => W.cell? ⟨g11, 0, none⟩ = some (.int .i64 L.1) ∧ W.cell? ⟨g11, 1, none⟩ = some (.int .i64 L.2) ∧ W.cell? ⟨g11, 2, none⟩ = some (.int .i64 x) ∧ W.cell? ⟨g11, 3, none⟩ = some (.int .i64 H.2)) (first | exact keep2 (by assumption) | exact keep2 (Tri.drew (by assumption))) (first
            | (go_at_call 19; (with_reducible refine (HOWN.out g5 g8 g9 g11 g12 _ (by first | assumption | exact Tri.drew (by assumption))).mono ?_); rintro e w' ⟨v, rfl, HV⟩; obtain ⟨A1, c1, rfl, hp1⟩ := HV.pts; have HS' := Tri.on (by first | assumption | exact Tri.drew (by assumption)) HV.1; have HP1 := Lib.hid hp1; clear hp1 HV)
            | (go_at_call 18; (with_reducible refine (HMU.out _ _ _ HP1.out).mono ?_); rintro e w' ⟨rfl, hB⟩; have HS' := Tri.on (by assumption) hB))
          go_wp2_with fail
          go_meet
          exact ⟨rfl, rfl, HS'⟩
        case rest =>
          obtain ⟨rfl, rfl, HT⟩ := hcut
          clear HQ c0 c1 c2 c3 u0 u1 u2 u3 v0 v1 v2 v3 d0 d1 d2 d3 HMU
          have HQ := HT
          clear HT
          obtain ⟨⟨c0, c1, c2, c3⟩, ⟨u0, u1, u2, u3⟩, ⟨v0, v1, v2, v3⟩, d0, d1, d2, d3⟩ := rdT HQ
          go_upto_region 7 with (fail)
          go_cut [17, 18] (fun sv se wx => sv = .bool mv ∧ se = .int .i64 me ∧ Tri w L H a b x g5 g8 g9 g11 g12 wx)
          case first =>
            clear HC HCU HCV
            go_region_held3 (fun W => W.cell? ⟨g12, 0, none⟩ = some (.int .i64 x) ∧ W.cell? ⟨g12, 1, none⟩ = some (.int .i64 L.2) ∧ W.cell? ⟨g12, 2, none⟩ = some (.int .i64 H.1) ∧ W.cell? ⟨g12, 3, none⟩ = some (.int .i64 H.2)) (first | exact keep3 (by assumption) | exact keep3 (Tri.drew (by assumption))) (first
              | (go_at_call 19; (with_reducible refine (HOWN.out g5 g8 g9 g11 g12 _ (by first | assumption | exact Tri.drew (by assumption))).mono ?_); rintro e w' ⟨v, rfl, HV⟩; obtain ⟨A1, c1, rfl, hp1⟩ := HV.pts; have HS' := Tri.on (by first | assumption | exact Tri.drew (by assumption)) HV.1; have HP1 := Lib.hid hp1; clear hp1 HV)
              | (go_at_call 18; (with_reducible refine (HMV.out _ _ _ HP1.out).mono ?_); rintro e w' ⟨rfl, hB⟩; have HS' := Tri.on (by assumption) hB))
            go_wp2_with fail
            go_meet
            exact ⟨rfl, rfl, HS'⟩
          case rest =>
            obtain ⟨rfl, rfl, HT⟩ := hcut
            clear HQ c0 c1 c2 c3 u0 u1 u2 u3 v0 v1 v2 v3 d0 d1 d2 d3 HMV HOWN
            have HQ := HT
            clear HT
            obtain ⟨⟨c0, c1, c2, c3⟩, ⟨u0, u1, u2, u3⟩, ⟨v0, v1, v2, v3⟩, d0, d1, d2, d3⟩ := rdT HQ
            go_upto_region 11 with (first
    | (go_at_call 15; go_must ((first | (with_reducible refine (HC.out _).mono ?_) | (with_reducible refine (HCU.out _).mono ?_) | (with_reducible refine (HCV.out _).mono ?_)); rintro e w' ⟨rfl, hB⟩; replace HQ := HQ.on hB; clear hB c0 c1 c2 c3 u0 u1 u2 u3 v0 v1 v2 v3 d0 d1 d2 d3; obtain ⟨⟨c0, c1, c2, c3⟩, ⟨u0, u1, u2, u3⟩, ⟨v0, v1, v2, v3⟩, d0, d1, d2, d3⟩ := rdT HQ)))
            have HB := Lib.hid HQ.1.1
            clear HQ c0 c1 c2 c3 u0 u1 u2 u3 v0 v1 v2 v3 d0 d1 d2 d3 HC HCU HCV
            cases mu <;> cases mv <;> cases cu <;> cases cv
            all_goals
              go_wp2
              go_ret
              exact ⟨rfl, HB.out⟩
theorem law_walk (L H a b : Int × Int) (x : Int) (ps : List (Int × Int)) (A : Option Addr) (cap : Nat) (hb : ps.length * 16 ≤ 140737488355328) (hnil : NilOk A cap) (w : World) (hr : Pts w w.heap.size A ps) :
    Calls Try.prog 7 #[.agg #[.int .i64 L.1, .int .i64 L.2, .int .i64 H.1, .int .i64 H.2], .int .i64 x, .slice A ps.length cap, .agg #[.int .i64 a.1, .int .i64 a.2], .agg #[.int .i64 b.1, .int .i64 b.2]] w fun e w' => e = .returned (.bool true) ∧ Below w.heap.size w w' := by
  by_cases he : wnE L H = 0
  · by_cases h1 : x < L.1
    · exact walk_low L H a b x ps A cap he h1 hb hnil w hr
    · by_cases h2 : H.1 < x
      · exact walk_high L H a b x ps A cap he h1 h2 hb hnil w hr
      · exact walk_good L H a b x ps A cap he h1 h2 hb hnil w hr
  · exact walk_bad L H a b x ps A cap he hb hnil w hr
end Go.Proofs.Ytjpjlnijmhjoaaa.windowParts
