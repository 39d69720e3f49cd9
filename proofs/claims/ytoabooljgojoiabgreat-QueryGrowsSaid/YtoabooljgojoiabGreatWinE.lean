/- The program's calls on windows, third part: cut, cutByBorder. -/
import Derived.Test.YtoabooljgojoiabGreatRefWin
import Derived.Test.YtoabooljgojoiabGreatWinB
import Derived.Test.YtoabooljgojoiabGreatSide
import Derived.Test.YtoabooljgojoiabGreatTurned
import Derived.Test.YtoabooljgojoiabGreatRingP
namespace Go.Proofs.YtoabooljgojoiabGreat
open Go.RowKit

theorem four_0 (L H : Int × Int) (w : World) : (Instr.index 100 (.agg #[.int .i64 L.1, .int .i64 L.2, .int .i64 H.1, .int .i64 L.2, .int .i64 H.1, .int .i64 H.2, .int .i64 L.1, .int .i64 H.2]) (.int .i64 0)).run Tryz.prog w = .ok (.agg #[.int .i64 L.1, .int .i64 L.2]) w := by kernel_rfl
theorem four_1 (L H : Int × Int) (w : World) : (Instr.index 100 (.agg #[.int .i64 L.1, .int .i64 L.2, .int .i64 H.1, .int .i64 L.2, .int .i64 H.1, .int .i64 H.2, .int .i64 L.1, .int .i64 H.2]) (.int .i64 1)).run Tryz.prog w = .ok (.agg #[.int .i64 H.1, .int .i64 L.2]) w := by kernel_rfl
theorem four_2 (L H : Int × Int) (w : World) : (Instr.index 100 (.agg #[.int .i64 L.1, .int .i64 L.2, .int .i64 H.1, .int .i64 L.2, .int .i64 H.1, .int .i64 H.2, .int .i64 L.1, .int .i64 H.2]) (.int .i64 2)).run Tryz.prog w = .ok (.agg #[.int .i64 H.1, .int .i64 H.2]) w := by kernel_rfl
theorem four_3 (L H : Int × Int) (w : World) : (Instr.index 100 (.agg #[.int .i64 L.1, .int .i64 L.2, .int .i64 H.1, .int .i64 L.2, .int .i64 H.1, .int .i64 H.2, .int .i64 L.1, .int .i64 H.2]) (.int .i64 3)).run Tryz.prog w = .ok (.agg #[.int .i64 L.1, .int .i64 H.2]) w := by kernel_rfl
theorem cor_gd {L H : Int × Int} (hg : gdL [L, H] = true) (k : Nat) : Gd (cor L H k) := by
 obtain ⟨⟨l1, l2, l3, l4⟩, h1, h2, h3, h4⟩ := gdL_two.1 hg
 rcases k with _ | _ | _ | _ <;> exact ⟨by simp only [cor]; omega, by simp only [cor]; omega, by simp only [cor]; omega, by simp only [cor]; omega⟩
def Passed (L H a b : Int × Int) (k : Nat) : Prop := ∀ i, i < k → ¬ 0 < meetN a b (cor L H i) (cor L H ((i + 1) % 4))
theorem passed_all {L H a b : Int × Int} (hL : L.1 ≤ H.1 ∧ L.2 ≤ H.2) (ha : hasB L H a = false) (h : Passed L H a b 4) : cutV L H a b = false := by
 refine cutV_not.2 fun e => ?_
 rcases (cut_prog hL).1 e with e | ⟨i, hi, e⟩
 ·exact hasB_not ha e
 ·exact h i hi (by rwa [meetN_eq])
theorem passed_yes {L H a b : Int × Int} (hL : L.1 ≤ H.1 ∧ L.2 ≤ H.2) {k : Nat} (hk : k < 4) (h : 0 < meetN a b (cor L H k) (cor L H ((k + 1) % 4))) : cutV L H a b = true :=
 cutV_iff.2 ((cut_prog hL).2 (.inr ⟨k, hk, by rwa [← meetN_eq]⟩))
theorem passed_succ {L H a b : Int × Int} {k : Nat} (hp : Passed L H a b k) (h : ¬ 0 < meetN a b (cor L H k) (cor L H ((k + 1) % 4))) : Passed L H a b (k + 1) := fun i hi => by
 by_cases e : i = k
 ·subst e; exact h
 ·exact hp i (by omega)
section
variable {w W : World} {L H a b : Int × Int}
theorem Hold.fab {g0 g1 g2 : Nat} {t0 t1 t2 : TypeId} (h : Hold w [(g2, #[.int .i64 b.1, .int .i64 b.2], t2), (g1, #[.int .i64 a.1, .int .i64 a.2], t1), (g0, #[.int .i64 L.1, .int .i64 L.2, .int .i64 H.1, .int .i64 H.2, .int .i64 L.1, .int .i64 L.2, .int .i64 H.1, .int .i64 L.2, .int .i64 H.1, .int .i64 H.2, .int .i64 L.1, .int .i64 H.2], t0)] W) :
  ((W.cell? ⟨g0, 0, none⟩ = some (.int .i64 L.1) ∧ W.cell? ⟨g0, 1, none⟩ = some (.int .i64 L.2) ∧ W.cell? ⟨g0, 2, none⟩ = some (.int .i64 H.1) ∧ W.cell? ⟨g0, 3, none⟩ = some (.int .i64 H.2)) ∧
  (W.cell? ⟨g0, 4, none⟩ = some (.int .i64 L.1) ∧ W.cell? ⟨g0, 5, none⟩ = some (.int .i64 L.2) ∧ W.cell? ⟨g0, 6, none⟩ = some (.int .i64 H.1) ∧ W.cell? ⟨g0, 7, none⟩ = some (.int .i64 L.2) ∧ W.cell? ⟨g0, 8, none⟩ = some (.int .i64 H.1) ∧ W.cell? ⟨g0, 9, none⟩ = some (.int .i64 H.2) ∧ W.cell? ⟨g0, 10, none⟩ = some (.int .i64 L.1) ∧ W.cell? ⟨g0, 11, none⟩ = some (.int .i64 H.2))) ∧ W.cell? ⟨g1, 0, none⟩ = some (.int .i64 a.1) ∧ W.cell? ⟨g1, 1, none⟩ = some (.int .i64 a.2) ∧ W.cell? ⟨g2, 0, none⟩ = some (.int .i64 b.1) ∧ W.cell? ⟨g2, 1, none⟩ = some (.int .i64 b.2) :=
 ⟨h.frm (.tail _ (.tail _ (.head _))), (h.pt (.tail _ (.head _))).1, (h.pt (.tail _ (.head _))).2, (h.pt (.head _)).1, (h.pt (.head _)).2⟩
end

set_option maxRecDepth 100000 in
set_option maxHeartbeats 8000000 in
theorem fcut_any (L H a b : Int × Int) (hL : L.1 ≤ H.1 ∧ L.2 ≤ H.2) (hg : gdL [L, H] = true) (ha : Gd a) (hb : Gd b) (w : World) :
  Calls Tryz.prog 70 #[.agg #[.int .i64 L.1, .int .i64 L.2, .int .i64 H.1, .int .i64 H.2, .int .i64 L.1, .int .i64 L.2, .int .i64 H.1, .int .i64 L.2, .int .i64 H.1, .int .i64 H.2, .int .i64 L.1, .int .i64 H.2], .agg #[.int .i64 a.1, .int .i64 a.2], .agg #[.int .i64 b.1, .int .i64 b.2]] w fun e w' => e = .returned (.bool (cutV L H a b)) ∧ Below w.heap.size w w' := by
 have HQ := (((Hold.refl w).new #[.int .i64 L.1, .int .i64 L.2, .int .i64 H.1, .int .i64 H.2, .int .i64 L.1, .int .i64 L.2, .int .i64 H.1, .int .i64 L.2, .int .i64 H.1, .int .i64 H.2, .int .i64 L.1, .int .i64 H.2] 102).new' #[.int .i64 a.1, .int .i64 a.2] 28 (n := w.heap.size + 1) (by simp)).new' #[.int .i64 b.1, .int .i64 b.2] 28 (n := w.heap.size + 1 + 1) (by simp)
 have HA := Lib.hid (fun W => fhas_any L H a W)
 have HM := Lib.hid (fun k W => by
  have := Meet_any a b (cor L H k) (cor L H ((k + 1) % 4)) W
  unfold mv me at this
  rw [if_pos (gdL_four.2 ⟨ha, hb, cor_gd hg k, cor_gd hg _⟩), if_pos (gdL_four.2 ⟨ha, hb, cor_gd hg k, cor_gd hg _⟩)] at this
  exact this)
 have HLE := Lib.hid hL
 clear ha hb hg hL
 go_enter Tryz.func70, Tryz.ntmps70
 go_upto_region 1 with (fail)
 generalize (World.alloc _ _) = W1 at HQ ⊢
 generalize w.heap.size + 1 + 1 = g2 at HQ ⊢
 generalize w.heap.size + 1 = g1 at HQ ⊢
 obtain ⟨g0, hg0⟩ : ∃ g, w.heap.size = g := ⟨_, rfl⟩
 rw [hg0] at HQ ⊢
 have HG0 := Lib.hid hg0
 clear hg0
 obtain ⟨⟨⟨c0, c1, c2, c3⟩, c4, c5, c6, c7, c8, c9, c10, c11⟩, d0, d1, e0, e1⟩ := HQ.fab
 go_wp2_with fail
 go_at_call 96
 refine (HA.out _).mono ?_
 rintro e w1 ⟨rfl, hB⟩
 replace HQ := HQ.on hB
 clear hB c0 c1 c2 c3 c4 c5 c6 c7 c8 c9 c10 c11 d0 d1 e0 e1 HA
 cases ha : hasB L H a
 ·have HALL := Lib.hid (fun h => passed_all (b := b) HLE.out ha h)
  have HYES := Lib.hid (fun k hk h => passed_yes (a := a) (b := b) HLE.out (k := k) hk h)
  clear ha
  obtain ⟨⟨⟨c0, c1, c2, c3⟩, c4, c5, c6, c7, c8, c9, c10, c11⟩, d0, d1, e0, e1⟩ := HQ.fab
  go_wp2_with fail
  go_loopg [17] 4 (fun g i wr => ((g = 4 ∧ i = .int .i64 0 ∧ Passed L H a b 0) ∨ (g = 3 ∧ i = .int .i64 1 ∧ Passed L H a b 1) ∨ (g = 2 ∧ i = .int .i64 2 ∧ Passed L H a b 2) ∨ (g = 1 ∧ i = .int .i64 3 ∧ Passed L H a b 3) ∨ (g = 0 ∧ i = .int .i64 4 ∧ Passed L H a b 4)) ∧ Hold w [(g2, #[.int .i64 b.1, .int .i64 b.2], 28), (g1, #[.int .i64 a.1, .int .i64 a.2], 28), (g0, #[.int .i64 L.1, .int .i64 L.2, .int .i64 H.1, .int .i64 H.2, .int .i64 L.1, .int .i64 L.2, .int .i64 H.1, .int .i64 L.2, .int .i64 H.1, .int .i64 H.2, .int .i64 L.1, .int .i64 H.2], 102)] wr)
  case atStart => exact ⟨.inl ⟨rfl, rfl, fun i hi => absurd hi (by omega)⟩, HQ⟩
  case round =>
   clear HQ c0 c1 c2 c3 c4 c5 c6 c7 c8 c9 c10 c11 d0 d1 e0 e1
   obtain ⟨hd, HQ⟩ := hrel
   rcases hd with ⟨rfl, rfl, hp⟩ | ⟨rfl, rfl, hp⟩ | ⟨rfl, rfl, hp⟩ | ⟨rfl, rfl, hp⟩ | ⟨rfl, rfl, hp⟩
   ·have HQ2 := (HQ.alloc (Obj.cells #[.int .i64 L.1, .int .i64 L.2] 28)).alloc (Obj.cells #[.int .i64 H.1, .int .i64 L.2] 28)
    have HQ3 := (HQ.new #[.int .i64 L.1, .int .i64 L.2] 28).new' #[.int .i64 H.1, .int .i64 L.2] 28 (n := wr.heap.size + 1) (by simp only [World.size_alloc])
    obtain ⟨⟨⟨c0, c1, c2, c3⟩, c4, c5, c6, c7, c8, c9, c10, c11⟩, d0, d1, e0, e1⟩ := HQ.fab
    obtain ⟨⟨⟨c20, c21, c22, c23⟩, c24, c25, c26, c27, c28, c29, c210, c211⟩, d20, d21, e20, e21⟩ := HQ2.fab
    obtain ⟨p0, p1⟩ := HQ3.pt (.head _)
    obtain ⟨p2, p3⟩ := HQ3.pt (.tail _ (.head _))
    have f0 := four_0 L H
    have y0 := (HQ.alloc (Obj.cells #[.int .i64 L.1, .int .i64 L.2] 28)).cell (.tail _ (.tail _ (.head _))) 6
    have y1 := (HQ.alloc (Obj.cells #[.int .i64 L.1, .int .i64 L.2] 28)).cell (.tail _ (.tail _ (.head _))) 7
    simp only [List.getElem?_toArray, List.getElem?_cons_zero, List.getElem?_cons_succ] at y0 y1
    have HMK : Hid (∀ W, Calls Tryz.prog 97 #[.agg #[.int .i64 a.1, .int .i64 a.2], .agg #[.int .i64 b.1, .int .i64 b.2], .agg #[.int .i64 L.1, .int .i64 L.2], .agg #[.int .i64 H.1, .int .i64 L.2]] W fun e w' => e = .returned (.tuple #[.int .i64 (meetN a b (cor L H 0) (cor L H ((0 + 1) % 4))), .int .i64 0]) ∧ Below W.heap.size W w') := HM.out 0
    have HPK : Hid (¬ 0 < meetN a b (cor L H 0) (cor L H ((0 + 1) % 4)) → Passed L H a b (0 + 1)) := passed_succ hp
    have HYK : Hid (0 < meetN a b (cor L H 0) (cor L H ((0 + 1) % 4)) → cutV L H a b = true) := HYES.out 0 (by omega)
    clear hp HYES HALL HM HQ3
    generalize meetN a b (cor L H 0) (cor L H ((0 + 1) % 4)) = m at *
    go_wp2_with fail
    go_at_call 97
    refine (HMK.out _).mono ?_
    rintro e w2 ⟨rfl, hB⟩
    have HX := Lib.hid (HQ2.on hB)
    clear hB HQ HQ2 HMK c0 c1 c2 c3 c4 c5 c6 c7 c8 c9 c10 c11 d0 d1 e0 e1 c20 c21 c22 c23 c24 c25 c26 c27 c28 c29 c210 c211 d20 d21 e20 e21 p0 p1 p2 p3 f0 y0 y1
    by_cases hm : 0 < m
    ·have HE := Lib.hid (HYK.out hm)
     clear HYK HPK
     go_wp2
     go_ret
     rw [HE.out]
     exact ⟨rfl, HX.out.1⟩
    ·have HN := Lib.hid (HPK.out (by omega))
     clear HYK HPK
     go_wp2
     go_roundg 3
     case measure => omega
     case rel => exact ⟨.inr (.inl ⟨rfl, rfl, HN.out⟩), HX.out⟩
   ·have HQ2 := (HQ.alloc (Obj.cells #[.int .i64 H.1, .int .i64 L.2] 28)).alloc (Obj.cells #[.int .i64 H.1, .int .i64 H.2] 28)
    have HQ3 := (HQ.new #[.int .i64 H.1, .int .i64 L.2] 28).new' #[.int .i64 H.1, .int .i64 H.2] 28 (n := wr.heap.size + 1) (by simp only [World.size_alloc])
    obtain ⟨⟨⟨c0, c1, c2, c3⟩, c4, c5, c6, c7, c8, c9, c10, c11⟩, d0, d1, e0, e1⟩ := HQ.fab
    obtain ⟨⟨⟨c20, c21, c22, c23⟩, c24, c25, c26, c27, c28, c29, c210, c211⟩, d20, d21, e20, e21⟩ := HQ2.fab
    obtain ⟨p0, p1⟩ := HQ3.pt (.head _)
    obtain ⟨p2, p3⟩ := HQ3.pt (.tail _ (.head _))
    have f0 := four_1 L H
    have y0 := (HQ.alloc (Obj.cells #[.int .i64 H.1, .int .i64 L.2] 28)).cell (.tail _ (.tail _ (.head _))) 8
    have y1 := (HQ.alloc (Obj.cells #[.int .i64 H.1, .int .i64 L.2] 28)).cell (.tail _ (.tail _ (.head _))) 9
    simp only [List.getElem?_toArray, List.getElem?_cons_zero, List.getElem?_cons_succ] at y0 y1
    have HMK : Hid (∀ W, Calls Tryz.prog 97 #[.agg #[.int .i64 a.1, .int .i64 a.2], .agg #[.int .i64 b.1, .int .i64 b.2], .agg #[.int .i64 H.1, .int .i64 L.2], .agg #[.int .i64 H.1, .int .i64 H.2]] W fun e w' => e = .returned (.tuple #[.int .i64 (meetN a b (cor L H 1) (cor L H ((1 + 1) % 4))), .int .i64 0]) ∧ Below W.heap.size W w') := HM.out 1
    have HPK : Hid (¬ 0 < meetN a b (cor L H 1) (cor L H ((1 + 1) % 4)) → Passed L H a b (1 + 1)) := passed_succ hp
    have HYK : Hid (0 < meetN a b (cor L H 1) (cor L H ((1 + 1) % 4)) → cutV L H a b = true) := HYES.out 1 (by omega)
    clear hp HYES HALL HM HQ3
    generalize meetN a b (cor L H 1) (cor L H ((1 + 1) % 4)) = m at *
    go_wp2_with fail
    go_at_call 97
    refine (HMK.out _).mono ?_
    rintro e w2 ⟨rfl, hB⟩
    have HX := Lib.hid (HQ2.on hB)
    clear hB HQ HQ2 HMK c0 c1 c2 c3 c4 c5 c6 c7 c8 c9 c10 c11 d0 d1 e0 e1 c20 c21 c22 c23 c24 c25 c26 c27 c28 c29 c210 c211 d20 d21 e20 e21 p0 p1 p2 p3 f0 y0 y1
    by_cases hm : 0 < m
    ·have HE := Lib.hid (HYK.out hm)
     clear HYK HPK
     go_wp2
     go_ret
     rw [HE.out]
     exact ⟨rfl, HX.out.1⟩
    ·have HN := Lib.hid (HPK.out (by omega))
     clear HYK HPK
     go_wp2
     go_roundg 2
     case measure => omega
     case rel => exact ⟨.inr (.inr (.inl ⟨rfl, rfl, HN.out⟩)), HX.out⟩
   ·have HQ2 := (HQ.alloc (Obj.cells #[.int .i64 H.1, .int .i64 H.2] 28)).alloc (Obj.cells #[.int .i64 L.1, .int .i64 H.2] 28)
    have HQ3 := (HQ.new #[.int .i64 H.1, .int .i64 H.2] 28).new' #[.int .i64 L.1, .int .i64 H.2] 28 (n := wr.heap.size + 1) (by simp only [World.size_alloc])
    obtain ⟨⟨⟨c0, c1, c2, c3⟩, c4, c5, c6, c7, c8, c9, c10, c11⟩, d0, d1, e0, e1⟩ := HQ.fab
    obtain ⟨⟨⟨c20, c21, c22, c23⟩, c24, c25, c26, c27, c28, c29, c210, c211⟩, d20, d21, e20, e21⟩ := HQ2.fab
    obtain ⟨p0, p1⟩ := HQ3.pt (.head _)
    obtain ⟨p2, p3⟩ := HQ3.pt (.tail _ (.head _))
    have f0 := four_2 L H
    have y0 := (HQ.alloc (Obj.cells #[.int .i64 H.1, .int .i64 H.2] 28)).cell (.tail _ (.tail _ (.head _))) 10
    have y1 := (HQ.alloc (Obj.cells #[.int .i64 H.1, .int .i64 H.2] 28)).cell (.tail _ (.tail _ (.head _))) 11
    simp only [List.getElem?_toArray, List.getElem?_cons_zero, List.getElem?_cons_succ] at y0 y1
    have HMK : Hid (∀ W, Calls Tryz.prog 97 #[.agg #[.int .i64 a.1, .int .i64 a.2], .agg #[.int .i64 b.1, .int .i64 b.2], .agg #[.int .i64 H.1, .int .i64 H.2], .agg #[.int .i64 L.1, .int .i64 H.2]] W fun e w' => e = .returned (.tuple #[.int .i64 (meetN a b (cor L H 2) (cor L H ((2 + 1) % 4))), .int .i64 0]) ∧ Below W.heap.size W w') := HM.out 2
    have HPK : Hid (¬ 0 < meetN a b (cor L H 2) (cor L H ((2 + 1) % 4)) → Passed L H a b (2 + 1)) := passed_succ hp
    have HYK : Hid (0 < meetN a b (cor L H 2) (cor L H ((2 + 1) % 4)) → cutV L H a b = true) := HYES.out 2 (by omega)
    clear hp HYES HALL HM HQ3
    generalize meetN a b (cor L H 2) (cor L H ((2 + 1) % 4)) = m at *
    go_wp2_with fail
    go_at_call 97
    refine (HMK.out _).mono ?_
    rintro e w2 ⟨rfl, hB⟩
    have HX := Lib.hid (HQ2.on hB)
    clear hB HQ HQ2 HMK c0 c1 c2 c3 c4 c5 c6 c7 c8 c9 c10 c11 d0 d1 e0 e1 c20 c21 c22 c23 c24 c25 c26 c27 c28 c29 c210 c211 d20 d21 e20 e21 p0 p1 p2 p3 f0 y0 y1
    by_cases hm : 0 < m
    ·have HE := Lib.hid (HYK.out hm)
     clear HYK HPK
     go_wp2
     go_ret
     rw [HE.out]
     exact ⟨rfl, HX.out.1⟩
    ·have HN := Lib.hid (HPK.out (by omega))
     clear HYK HPK
     go_wp2
     go_roundg 1
     case measure => omega
     case rel => exact ⟨.inr (.inr (.inr (.inl ⟨rfl, rfl, HN.out⟩))), HX.out⟩
   ·have HQ2 := (HQ.alloc (Obj.cells #[.int .i64 L.1, .int .i64 H.2] 28)).alloc (Obj.cells #[.int .i64 L.1, .int .i64 L.2] 28)
    have HQ3 := (HQ.new #[.int .i64 L.1, .int .i64 H.2] 28).new' #[.int .i64 L.1, .int .i64 L.2] 28 (n := wr.heap.size + 1) (by simp only [World.size_alloc])
    obtain ⟨⟨⟨c0, c1, c2, c3⟩, c4, c5, c6, c7, c8, c9, c10, c11⟩, d0, d1, e0, e1⟩ := HQ.fab
    obtain ⟨⟨⟨c20, c21, c22, c23⟩, c24, c25, c26, c27, c28, c29, c210, c211⟩, d20, d21, e20, e21⟩ := HQ2.fab
    obtain ⟨p0, p1⟩ := HQ3.pt (.head _)
    obtain ⟨p2, p3⟩ := HQ3.pt (.tail _ (.head _))
    have f0 := four_3 L H
    have y0 := (HQ.alloc (Obj.cells #[.int .i64 L.1, .int .i64 H.2] 28)).cell (.tail _ (.tail _ (.head _))) 4
    have y1 := (HQ.alloc (Obj.cells #[.int .i64 L.1, .int .i64 H.2] 28)).cell (.tail _ (.tail _ (.head _))) 5
    simp only [List.getElem?_toArray, List.getElem?_cons_zero, List.getElem?_cons_succ] at y0 y1
    have HMK : Hid (∀ W, Calls Tryz.prog 97 #[.agg #[.int .i64 a.1, .int .i64 a.2], .agg #[.int .i64 b.1, .int .i64 b.2], .agg #[.int .i64 L.1, .int .i64 H.2], .agg #[.int .i64 L.1, .int .i64 L.2]] W fun e w' => e = .returned (.tuple #[.int .i64 (meetN a b (cor L H 3) (cor L H ((3 + 1) % 4))), .int .i64 0]) ∧ Below W.heap.size W w') := HM.out 3
    have HPK : Hid (¬ 0 < meetN a b (cor L H 3) (cor L H ((3 + 1) % 4)) → Passed L H a b (3 + 1)) := passed_succ hp
    have HYK : Hid (0 < meetN a b (cor L H 3) (cor L H ((3 + 1) % 4)) → cutV L H a b = true) := HYES.out 3 (by omega)
    clear hp HYES HALL HM HQ3
    generalize meetN a b (cor L H 3) (cor L H ((3 + 1) % 4)) = m at *
    go_wp2_with fail
    go_at_call 97
    refine (HMK.out _).mono ?_
    rintro e w2 ⟨rfl, hB⟩
    have HX := Lib.hid (HQ2.on hB)
    clear hB HQ HQ2 HMK c0 c1 c2 c3 c4 c5 c6 c7 c8 c9 c10 c11 d0 d1 e0 e1 c20 c21 c22 c23 c24 c25 c26 c27 c28 c29 c210 c211 d20 d21 e20 e21 p0 p1 p2 p3 f0 y0 y1
    by_cases hm : 0 < m
    ·have HE := Lib.hid (HYK.out hm)
     clear HYK HPK
     go_wp2
     go_ret
     rw [HE.out]
     exact ⟨rfl, HX.out.1⟩
    ·have HN := Lib.hid (HPK.out (by omega))
     clear HYK HPK
     go_wp2
     go_roundg 0
     case measure => omega
     case rel => exact ⟨.inr (.inr (.inr (.inr (⟨rfl, rfl, HN.out⟩)))), HX.out⟩
   ·have HE : Hid (cutV L H a b = false) := HALL.out hp
    have HB := Lib.hid HQ.1
    clear HQ hp HALL HYES
    go_wp2
    go_ret
    rw [HE.out]
    exact ⟨rfl, HB.out⟩
 ·have HE : Hid (cutV L H a b = true) := cutV_iff.2 (cut_in (hasB_iff.1 ha))
  have HB := Lib.hid HQ.1
  clear ha HQ
  go_wp2
  go_ret
  rw [HE.out]
  exact ⟨rfl, HB.out⟩
end Go.Proofs.YtoabooljgojoiabGreat

namespace Go.Proofs.YtoabooljgojoiabGreat
open Go.RowKit

noncomputable def rimV (L H : Int × Int) (r : List (Int × Int)) : Bool := @decide (Rimmed L H r) (Classical.propDecidable _)
theorem rimV_iff {L H : Int × Int} {r : List (Int × Int)} : rimV L H r = true ↔ Rimmed L H r := by unfold rimV; exact @decide_eq_true_iff _ (Classical.propDecidable _)
theorem rimV_not {L H : Int × Int} {r : List (Int × Int)} : rimV L H r = false ↔ ¬ Rimmed L H r := by rw [← rimV_iff, Bool.not_eq_true]
theorem cells_fp {w W : World} {L H a b : Int × Int} {g0 gx : Nat} {t0 tx : TypeId} {q : Addr} (h : Hold w [(gx, #[.int .i64 a.1, .int .i64 a.2], tx), (g0, #[.int .i64 L.1, .int .i64 L.2, .int .i64 H.1, .int .i64 H.2, .int .i64 L.1, .int .i64 L.2, .int .i64 H.1, .int .i64 L.2, .int .i64 H.1, .int .i64 H.2, .int .i64 L.1, .int .i64 H.2], t0)] W) (f : FP w q b) : W.cell? ⟨gx, 0, none⟩ = some (.int .i64 a.1) ∧ W.cell? ⟨gx, 1, none⟩ = some (.int .i64 a.2) ∧ W.cell? q = some (.int .i64 b.1) ∧ W.cell? ⟨q.block, q.off + 1, none⟩ = some (.int .i64 b.2) ∧ (W.cell? ⟨g0, 0, none⟩ = some (.int .i64 L.1) ∧ W.cell? ⟨g0, 1, none⟩ = some (.int .i64 L.2) ∧ W.cell? ⟨g0, 2, none⟩ = some (.int .i64 H.1) ∧ W.cell? ⟨g0, 3, none⟩ = some (.int .i64 H.2)) ∧ (W.cell? ⟨g0, 4, none⟩ = some (.int .i64 L.1) ∧ W.cell? ⟨g0, 5, none⟩ = some (.int .i64 L.2) ∧ W.cell? ⟨g0, 6, none⟩ = some (.int .i64 H.1) ∧ W.cell? ⟨g0, 7, none⟩ = some (.int .i64 L.2) ∧ W.cell? ⟨g0, 8, none⟩ = some (.int .i64 H.1) ∧ W.cell? ⟨g0, 9, none⟩ = some (.int .i64 H.2) ∧ W.cell? ⟨g0, 10, none⟩ = some (.int .i64 L.1) ∧ W.cell? ⟨g0, 11, none⟩ = some (.int .i64 H.2)) :=
 ⟨(h.pt (.head _)).1, (h.pt (.head _)).2, (h.fp f).1, (h.fp f).2, (h.frm (.tail _ (.head _))).1, (h.frm (.tail _ (.head _))).2⟩

set_option maxRecDepth 100000 in
set_option maxHeartbeats 8000000 in
theorem fborder_any (L H : Int × Int) (ps : List (Int × Int)) (A : Option Addr) (cap : Nat) (hL : L.1 ≤ H.1 ∧ L.2 ≤ H.2) (hg : gdL [L, H] = true) (hn : ps.length ≤ 128) (hgd : gdL ps = true) (w : World) (hr : Pts w w.heap.size A ps) :
  Calls Tryz.prog 39 #[.agg #[.int .i64 L.1, .int .i64 L.2, .int .i64 H.1, .int .i64 H.2, .int .i64 L.1, .int .i64 L.2, .int .i64 H.1, .int .i64 L.2, .int .i64 H.1, .int .i64 H.2, .int .i64 L.1, .int .i64 H.2], .slice A ps.length cap] w fun e w' => e = .returned (.bool (rimV L H ps)) ∧ Below w.heap.size w w' := by
 have HQ := (Hold.refl w).new #[.int .i64 L.1, .int .i64 L.2, .int .i64 H.1, .int .i64 H.2, .int .i64 L.1, .int .i64 L.2, .int .i64 H.1, .int .i64 L.2, .int .i64 H.1, .int .i64 H.2, .int .i64 L.1, .int .i64 H.2] 102
 have HR := Lib.hid hr
 have HC := Lib.hid (fun a b ha hb W => fcut_any L H a b hL hg ha hb W)
 have HGD := Lib.hid (fun h0 i => nx_gd (i := i) hgd h0)
 have HN := Lib.hid hn
 clear hr hL hg hgd hn
 go_enter Tryz.func39, Tryz.ntmps39
 go_upto_region 1 with (fail)
 generalize (World.alloc _ _) = W1 at HQ ⊢
 obtain ⟨g0, hg0⟩ : ∃ g, w.heap.size = g := ⟨_, rfl⟩
 rw [hg0] at HQ ⊢
 have HG0 := Lib.hid hg0
 clear hg0
 go_wp2_with fail
 go_loopg [9] ps.length (fun g i wr => ∃ k : Nat, k ≤ ps.length ∧ g = ps.length - k ∧ i = .int .i64 k ∧ (∀ j, j < k → ¬ Cut L H (nx ps j) (nx ps (j + 1))) ∧ Hold w [(g0, #[.int .i64 L.1, .int .i64 L.2, .int .i64 H.1, .int .i64 H.2, .int .i64 L.1, .int .i64 L.2, .int .i64 H.1, .int .i64 L.2, .int .i64 H.1, .int .i64 H.2, .int .i64 L.1, .int .i64 H.2], 102)] wr)
 case atStart => exact ⟨0, Nat.zero_le _, rfl, rfl, fun j hj => absurd hj (by omega), HQ⟩
 case round =>
  clear HQ
  obtain ⟨k, hk, hgk, rfl, hno, HB⟩ := hrel
  have HGK := Lib.hid hgk
  have HNO := Lib.hid hno
  clear hgk hno
  by_cases hlt : k < ps.length
  ·obtain ⟨jk, hjk, ek1, ek2, ek3⟩ := next_place hlt
   obtain ⟨ad, hA, F0⟩ := HR.out.fp hlt (Nat.mod_eq_of_lt hlt)
   obtain ⟨ad', e', F1⟩ := HR.out.fp hjk ek1
   obtain rfl := Option.some.inj (hA.symm.trans e')
   obtain rfl := hA
   have HF1 := Lib.hid F1
   have b0 : (0 : Int) ≤ (k : Int) := by omega
   have b1 : (k : Int) < (ps.length : Int) := by omega
   have b2 : (0 : Int) < (ps.length : Int) := by omega
   have b4 : (0 : Int) ≤ (jk : Int) := by omega
   have b5 : (jk : Int) < (ps.length : Int) := by omega
   have b6 : (ps.length : Int) ≤ 128 := by have := HN.out; omega
   obtain ⟨f0, f1⟩ := HB.fp F0
   have ga := HGD.out (by omega) k
   have gb := HGD.out (by omega) (k + 1)
   have HCK := Lib.hid (HC.out _ _ ga gb)
   have HYK : Hid (cutV L H (nx ps k) (nx ps (k + 1)) = true → rimV L H ps = true) := fun h => rimV_iff.2 ⟨k, hlt, cutV_iff.1 h⟩
   have HNK : Hid (cutV L H (nx ps k) (nx ps (k + 1)) = false → ∀ j, j < k + 1 → ¬ Cut L H (nx ps j) (nx ps (j + 1))) := fun h j hj => by
    by_cases e : j = k
    ·subst e; exact cutV_not.1 h
    ·exact HNO.out j (by omega)
   clear F0 F1 e' ek1 ga gb
   generalize nx ps k = a at *
   generalize nx ps (k + 1) = b at *
   go_upto_region 4 with (fail)
   have HB1 := HB.new #[.int .i64 a.1, .int .i64 a.2] 28
   generalize (World.alloc wr _) = W4 at HB1 ⊢
   generalize wr.heap.size = gx at HB1 ⊢
   clear HB f0 f1
   go_cut [24] (fun s24 wx => s24 = .bool (cutV L H a b) ∧ Hold w [(gx, #[.int .i64 a.1, .int .i64 a.2], 28), (g0, #[.int .i64 L.1, .int .i64 L.2, .int .i64 H.1, .int .i64 H.2, .int .i64 L.1, .int .i64 L.2, .int .i64 H.1, .int .i64 L.2, .int .i64 H.1, .int .i64 H.2, .int .i64 L.1, .int .i64 H.2], 102)] wx)
   case first =>
    have z1 : ((ps.length : Int) == 0) = false := by rw [beq_eq_false_iff_ne]; omega
    have z2 : ¬ (ps.length : Int) = 0 := by omega
    have z7 : ¬ ps.length = 0 := by omega
    have z8 : ¬ ps = [] := fun e => z7 (by rw [e]; rfl)
    have z3 := wrap_in (n := (k : Int) + 1) (by omega) (by omega)
    have z5 := wrap_in (n := (jk : Int)) (by omega) (by omega)
    clear HYK HNK HNO HGK HC
    go_region_held3 (fun W => W.cell? ⟨gx, 0, none⟩ = some (.int .i64 a.1) ∧ W.cell? ⟨gx, 1, none⟩ = some (.int .i64 a.2) ∧ W.cell? (ad.add (jk * 2)) = some (.int .i64 b.1) ∧ W.cell? ⟨(ad.add (jk * 2)).block, (ad.add (jk * 2)).off + 1, none⟩ = some (.int .i64 b.2) ∧ (W.cell? ⟨g0, 0, none⟩ = some (.int .i64 L.1) ∧ W.cell? ⟨g0, 1, none⟩ = some (.int .i64 L.2) ∧ W.cell? ⟨g0, 2, none⟩ = some (.int .i64 H.1) ∧ W.cell? ⟨g0, 3, none⟩ = some (.int .i64 H.2)) ∧ (W.cell? ⟨g0, 4, none⟩ = some (.int .i64 L.1) ∧ W.cell? ⟨g0, 5, none⟩ = some (.int .i64 L.2) ∧ W.cell? ⟨g0, 6, none⟩ = some (.int .i64 H.1) ∧ W.cell? ⟨g0, 7, none⟩ = some (.int .i64 L.2) ∧ W.cell? ⟨g0, 8, none⟩ = some (.int .i64 H.1) ∧ W.cell? ⟨g0, 9, none⟩ = some (.int .i64 H.2) ∧ W.cell? ⟨g0, 10, none⟩ = some (.int .i64 L.1) ∧ W.cell? ⟨g0, 11, none⟩ = some (.int .i64 H.2))) (first | exact cells_fp (by assumption) HF1.out | exact cells_fp (Hold.drew (by assumption)) HF1.out) ((go_at_call 70; (with_reducible refine (HCK.out _).mono ?_); rintro e w' ⟨rfl, hB⟩; have HS' := Hold.on (by first | assumption | exact Hold.drew (by assumption)) hB))
    go_wp2_with fail
    go_meet
    exact ⟨rfl, HS'⟩
   case rest =>
    obtain ⟨rfl, HB2⟩ := hcut
    clear HB1 HCK HC
    cases hc : cutV L H a b
    ·have HNX := Lib.hid (HNK.out hc)
     have HBK := Lib.hid HB2.tail
     clear HYK HNK hc HB2
     go_wp2
     go_roundg (ps.length - (k + 1))
     case measure => have := HGK.out; omega
     case rel => exact ⟨k + 1, by omega, rfl, by go_num, HNX.out, HBK.out⟩
    ·have HE := Lib.hid (HYK.out hc)
     have HBK := Lib.hid HB2.1
     clear HYK HNK hc HB2
     go_wp2
     go_ret
     rw [HE.out]
     exact ⟨rfl, HBK.out⟩
  ·obtain rfl : k = ps.length := by omega
   have HE : Hid (rimV L H ps = false) := rimV_not.2 fun ⟨i, hi, h⟩ => HNO.out i hi h
   have HBK := Lib.hid HB.1
   clear HB HNO
   go_wp2
   go_ret
   rw [HE.out]
   exact ⟨rfl, HBK.out⟩
end Go.Proofs.YtoabooljgojoiabGreat

namespace Go.Proofs.YtoabooljgojoiabGreat
open Go.RowKit

noncomputable def meE (L H : Int × Int) (ps : List (Int × Int)) : Int := if wnE L H ≠ 0 then wnE L H else chE ps
noncomputable def meV (L H : Int × Int) (ps : List (Int × Int)) : Bool := if meE L H ps = 0 then metV L H ps else false
theorem pts_nil (w : World) (B : Nat) : Pts w B none [] := by
 intro h
 simp at h
section
variable (L H : Int × Int) (ps : List (Int × Int)) (cap : Nat) (w W : World) (t : TypeId)
end

set_option maxRecDepth 100000 in
set_option maxHeartbeats 4000000 in
theorem Meets_bad (L H : Int × Int) (v : Value) (he : wnE L H ≠ 0) (w : World) :
  Calls Tryz.prog 17 #[.agg #[.int .i64 L.1, .int .i64 L.2, .int .i64 H.1, .int .i64 H.2], v] w fun e w' => e = .returned (.tuple #[.bool false, .int .i64 (wnE L H)]) ∧ Below w.heap.size w w' := by
 have HQ := (Hold.refl w).new #[.int .i64 L.1, .int .i64 L.2, .int .i64 H.1, .int .i64 H.2] 30
 go_enter Tryz.func17, Tryz.ntmps17
 go_upto_region 1 with (fail)
 generalize (World.alloc _ _) = W1 at HQ ⊢
 obtain ⟨g0, hg0⟩ : ∃ g, w.heap.size = g := ⟨_, rfl⟩
 rw [hg0] at HQ ⊢
 have HG0 := Lib.hid hg0
 clear hg0
 obtain ⟨c0, c1, c2, c3⟩ := HQ.win (.head _)
 go_wp2_with fail
 go_at_call 37
 refine (framed_bad L H _ he _).mono ?_
 rintro e w2 ⟨rfl, hB⟩
 have HB := Lib.hid ((HQ.on hB).1.alloc ((HQ.on hB).1.size) (Obj.cells #[.int .i64 0, .int .i64 0, .int .i64 0, .int .i64 0, .int .i64 0, .int .i64 0, .int .i64 0, .int .i64 0, .int .i64 0, .int .i64 0, .int .i64 0, .int .i64 0] 102))
 clear hB HQ c0 c1 c2 c3
 have e0 : (wnE L H != 0) = true := by simpa using he
 clear he
 go_wp2
 go_ret2
 exact ⟨rfl, HB.out⟩

set_option maxRecDepth 100000 in
set_option maxHeartbeats 4000000 in
theorem Meets_ill (L H : Int × Int) (ps : List (Int × Int)) (A : Option Addr) (cap : Nat) (he : wnE L H = 0) (hc : chE ps ≠ 0) (hn : ps.length ≤ maxLen) (w : World) (hr : Pts w w.heap.size A ps) :
  Calls Tryz.prog 17 #[.agg #[.int .i64 L.1, .int .i64 L.2, .int .i64 H.1, .int .i64 H.2], .slice A ps.length cap] w fun e w' => e = .returned (.tuple #[.bool false, .int .i64 (chE ps)]) ∧ Below w.heap.size w w' := by
 have HQ := (Hold.refl w).new #[.int .i64 L.1, .int .i64 L.2, .int .i64 H.1, .int .i64 H.2] 30
 have HS := Lib.hid (fun K W (h : Hold w K W) => Side_any ps A cap L hn W (hr.on h.1))
 have e1 : sdE ps L = chE ps := by unfold sdE; rw [if_pos hc]
 have e2 : sdV ps L = 0 := by unfold sdV; rw [e1, if_neg hc]
 rw [e1, e2] at HS
 clear hn hr e1 e2
 go_enter Tryz.func17, Tryz.ntmps17
 go_upto_region 1 with (fail)
 generalize (World.alloc _ _) = W1 at HQ ⊢
 obtain ⟨g0, hg0⟩ : ∃ g, w.heap.size = g := ⟨_, rfl⟩
 rw [hg0] at HQ ⊢
 have HG0 := Lib.hid hg0
 clear hg0
 obtain ⟨c0, c1, c2, c3⟩ := HQ.win (.head _)
 go_wp2_with fail
 go_at_call 37
 refine (framed_good L H [] none 0 he rfl (by unfold maxLen; simp) _ (pts_nil _ _)).mono ?_
 rintro e w2 ⟨rfl, hB⟩
 replace HQ := (HQ.on hB).new #[.int .i64 L.1, .int .i64 L.2, .int .i64 H.1, .int .i64 H.2, .int .i64 L.1, .int .i64 L.2, .int .i64 H.1, .int .i64 L.2, .int .i64 H.1, .int .i64 H.2, .int .i64 L.1, .int .i64 H.2] 102
 clear hB c0 c1 c2 c3 he
 have e0 : (chE ps != 0) = true := by simpa using hc
 clear hc
 go_wp2_with fail
 go_at_call 38
 refine (HS.out _ _ HQ).mono ?_
 rintro e w3 ⟨rfl, hB⟩
 have HB := Lib.hid (HQ.on hB).1
 clear hB HQ HS
 go_wp2
 go_ret2
 exact ⟨rfl, HB.out⟩

set_option maxRecDepth 100000 in
set_option maxHeartbeats 4000000 in
theorem Meets_good (L H : Int × Int) (ps : List (Int × Int)) (A : Option Addr) (cap : Nat) (he : wnE L H = 0) (hc : chE ps = 0) (hn : ps.length ≤ maxLen) (w : World) (hr : Pts w w.heap.size A ps) :
  Calls Tryz.prog 17 #[.agg #[.int .i64 L.1, .int .i64 L.2, .int .i64 H.1, .int .i64 H.2], .slice A ps.length cap] w fun e w' => e = .returned (.tuple #[.bool (metV L H ps), .int .i64 0]) ∧ Below w.heap.size w w' := by
 have HQ := (Hold.refl w).new #[.int .i64 L.1, .int .i64 L.2, .int .i64 H.1, .int .i64 H.2] 30
 have HS := Lib.hid (fun K W (h : Hold w K W) => Side_any ps A cap L hn W (hr.on h.1))
 obtain ⟨hg, hL⟩ := wnE_zero.1 he
 have hgl := gd_iff.2 (gdL_two.1 hg).1
 obtain ⟨ha, hs⟩ := chE_zero.1 hc
 obtain ⟨h128, hgd⟩ := arE_zero.1 ha
 have e1 : sdE ps L = 0 := by unfold sdE; rw [if_neg (by omega), hgl]; rfl
 have e2 : sdV ps L = side ps L := by unfold sdV; rw [if_pos e1, sideW_side hs]
 rw [e1, e2] at HS
 have HBO := Lib.hid (fun K W (h : Hold w K W) => fborder_any L H ps A cap hL hg h128 hgd W (hr.on h.1))
 have HE : Hid (metV L H ps = (decide (0 ≤ side ps L) || rimV L H ps)) := by
  unfold Hid
  rw [Bool.eq_iff_iff, metV_iff, Bool.or_eq_true, decide_eq_true_eq, rimV_iff]
  rfl
 clear hn hr e1 e2 hg hL hgl ha hs h128 hgd hc
 generalize side ps L = s at *
 generalize rimV L H ps = rv at *
 go_enter Tryz.func17, Tryz.ntmps17
 go_upto_region 1 with (fail)
 generalize (World.alloc _ _) = W1 at HQ ⊢
 obtain ⟨g0, hg0⟩ : ∃ g, w.heap.size = g := ⟨_, rfl⟩
 rw [hg0] at HQ ⊢
 have HG0 := Lib.hid hg0
 clear hg0
 obtain ⟨c0, c1, c2, c3⟩ := HQ.win (.head _)
 go_wp2_with fail
 go_at_call 37
 refine (framed_good L H [] none 0 he rfl (by unfold maxLen; simp) _ (pts_nil _ _)).mono ?_
 rintro e w2 ⟨rfl, hB⟩
 replace HQ := (HQ.on hB).new #[.int .i64 L.1, .int .i64 L.2, .int .i64 H.1, .int .i64 H.2, .int .i64 L.1, .int .i64 L.2, .int .i64 H.1, .int .i64 L.2, .int .i64 H.1, .int .i64 H.2, .int .i64 L.1, .int .i64 H.2] 102
 clear hB c0 c1 c2 c3 he
 go_wp2_with fail
 go_at_call 38
 refine (HS.out _ _ HQ).mono ?_
 rintro e w3 ⟨rfl, hB⟩
 replace HQ := HQ.on hB
 clear hB HS
 obtain ⟨⟨c0, c1, c2, c3⟩, c4, c5, c6, c7, c8, c9, c10, c11⟩ := HQ.frm (.head _)
 by_cases h0 : 0 ≤ s
 ·have HX : Hid (metV L H ps = true) := by unfold Hid; rw [HE.out, decide_eq_true h0]; rfl
  have HB := Lib.hid HQ.1
  clear HQ HE HBO
  go_wp2
  go_ret2
  rw [HX.out]
  exact ⟨rfl, HB.out⟩
 ·have HX := HE
  clear HE
  go_wp2_with fail
  go_at_call 39
  refine (HBO.out _ _ HQ).mono ?_
  rintro e w4 ⟨rfl, hB⟩
  have HB := Lib.hid (HQ.on hB).1
  clear hB HQ HBO c0 c1 c2 c3 c4 c5 c6 c7 c8 c9 c10 c11
  go_wp2
  go_ret2
  rw [HX.out]
  exact ⟨rfl, HB.out⟩
theorem Meets_any (L H : Int × Int) (ps : List (Int × Int)) (A : Option Addr) (cap : Nat) (hn : ps.length ≤ maxLen) (w : World) (hr : Pts w w.heap.size A ps) :
  Calls Tryz.prog 17 #[.agg #[.int .i64 L.1, .int .i64 L.2, .int .i64 H.1, .int .i64 H.2], .slice A ps.length cap] w fun e w' => e = .returned (.tuple #[.bool (meV L H ps), .int .i64 (meE L H ps)]) ∧ Below w.heap.size w w' := by
 unfold meV meE
 by_cases he : wnE L H = 0
 ·rw [if_neg (by omega : ¬ wnE L H ≠ 0)]
  by_cases hc : chE ps = 0
  ·rw [if_pos hc, hc]; exact Meets_good L H ps A cap he hc hn w hr
  ·rw [if_neg hc]; exact Meets_ill L H ps A cap he hc hn w hr
 ·rw [if_pos he, if_neg he]; exact Meets_bad L H _ he w
end Go.Proofs.YtoabooljgojoiabGreat
