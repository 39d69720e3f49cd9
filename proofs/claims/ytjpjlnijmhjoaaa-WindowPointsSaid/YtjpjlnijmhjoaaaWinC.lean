/- The program's calls on windows, third part: cut, cutByBorder. -/
import Derived.Test.YtjpjlnijmhjoaaaRefWin
namespace Go.Proofs.Ytjpjlnijmhjoaaa
open Go.RowKit

theorem four_0 (L H : Int × Int) (w : World) : (Instr.index 46 (.agg #[.int .i64 L.1, .int .i64 L.2, .int .i64 H.1, .int .i64 L.2, .int .i64 H.1, .int .i64 H.2, .int .i64 L.1, .int .i64 H.2]) (.int .i64 0)).run Try.prog w = .ok (.agg #[.int .i64 L.1, .int .i64 L.2]) w := by kernel_rfl
theorem four_1 (L H : Int × Int) (w : World) : (Instr.index 46 (.agg #[.int .i64 L.1, .int .i64 L.2, .int .i64 H.1, .int .i64 L.2, .int .i64 H.1, .int .i64 H.2, .int .i64 L.1, .int .i64 H.2]) (.int .i64 1)).run Try.prog w = .ok (.agg #[.int .i64 H.1, .int .i64 L.2]) w := by kernel_rfl
theorem four_2 (L H : Int × Int) (w : World) : (Instr.index 46 (.agg #[.int .i64 L.1, .int .i64 L.2, .int .i64 H.1, .int .i64 L.2, .int .i64 H.1, .int .i64 H.2, .int .i64 L.1, .int .i64 H.2]) (.int .i64 2)).run Try.prog w = .ok (.agg #[.int .i64 H.1, .int .i64 H.2]) w := by kernel_rfl
theorem four_3 (L H : Int × Int) (w : World) : (Instr.index 46 (.agg #[.int .i64 L.1, .int .i64 L.2, .int .i64 H.1, .int .i64 L.2, .int .i64 H.1, .int .i64 H.2, .int .i64 L.1, .int .i64 H.2]) (.int .i64 3)).run Try.prog w = .ok (.agg #[.int .i64 L.1, .int .i64 H.2]) w := by kernel_rfl
theorem cor_gd {L H : Int × Int} (hg : gdL [L, H] = true) (k : Nat) : Gd (cor L H k) := by
  obtain ⟨⟨l1, l2, l3, l4⟩, h1, h2, h3, h4⟩ := gdL_two.1 hg
  rcases k with _ | _ | _ | _ <;> exact ⟨by simp only [cor]; omega, by simp only [cor]; omega, by simp only [cor]; omega, by simp only [cor]; omega⟩
/-- Behind the first k sides. -/
def Passed (L H a b : Int × Int) (k : Nat) : Prop := ∀ i, i < k → ¬ 0 < meetN a b (cor L H i) (cor L H ((i + 1) % 4))
theorem passed_all {L H a b : Int × Int} (hL : L.1 ≤ H.1 ∧ L.2 ≤ H.2) (ha : hasB L H a = false) (h : Passed L H a b 4) : cutV L H a b = false := by
  refine cutV_not.2 fun e => ?_
  rcases (cut_prog hL).1 e with e | ⟨i, hi, e⟩
  · exact hasB_not ha e
  · exact h i hi (by rwa [meetN_eq])
theorem passed_yes {L H a b : Int × Int} (hL : L.1 ≤ H.1 ∧ L.2 ≤ H.2) {k : Nat} (hk : k < 4) (h : 0 < meetN a b (cor L H k) (cor L H ((k + 1) % 4))) : cutV L H a b = true :=
  cutV_iff.2 ((cut_prog hL).2 (.inr ⟨k, hk, by rwa [← meetN_eq]⟩))
theorem passed_succ {L H a b : Int × Int} {k : Nat} (hp : Passed L H a b k) (h : ¬ 0 < meetN a b (cor L H k) (cor L H ((k + 1) % 4))) : Passed L H a b (k + 1) := fun i hi => by
  by_cases e : i = k
  · subst e; exact h
  · exact hp i (by omega)
section
variable {w W : World} {L H a b : Int × Int}
theorem Hold.fab {g0 g1 g2 : Nat} {t0 t1 t2 : TypeId} (h : Hold w [(g2, #[.int .i64 b.1, .int .i64 b.2], t2), (g1, #[.int .i64 a.1, .int .i64 a.2], t1), (g0, #[.int .i64 L.1, .int .i64 L.2, .int .i64 H.1, .int .i64 H.2, .int .i64 L.1, .int .i64 L.2, .int .i64 H.1, .int .i64 L.2, .int .i64 H.1, .int .i64 H.2, .int .i64 L.1, .int .i64 H.2], t0)] W) :
    ((W.cell? ⟨g0, 0, none⟩ = some (.int .i64 L.1) ∧ W.cell? ⟨g0, 1, none⟩ = some (.int .i64 L.2) ∧ W.cell? ⟨g0, 2, none⟩ = some (.int .i64 H.1) ∧ W.cell? ⟨g0, 3, none⟩ = some (.int .i64 H.2)) ∧
    (W.cell? ⟨g0, 4, none⟩ = some (.int .i64 L.1) ∧ W.cell? ⟨g0, 5, none⟩ = some (.int .i64 L.2) ∧ W.cell? ⟨g0, 6, none⟩ = some (.int .i64 H.1) ∧ W.cell? ⟨g0, 7, none⟩ = some (.int .i64 L.2) ∧ W.cell? ⟨g0, 8, none⟩ = some (.int .i64 H.1) ∧ W.cell? ⟨g0, 9, none⟩ = some (.int .i64 H.2) ∧ W.cell? ⟨g0, 10, none⟩ = some (.int .i64 L.1) ∧ W.cell? ⟨g0, 11, none⟩ = some (.int .i64 H.2))) ∧ W.cell? ⟨g1, 0, none⟩ = some (.int .i64 a.1) ∧ W.cell? ⟨g1, 1, none⟩ = some (.int .i64 a.2) ∧ W.cell? ⟨g2, 0, none⟩ = some (.int .i64 b.1) ∧ W.cell? ⟨g2, 1, none⟩ = some (.int .i64 b.2) :=
  ⟨h.frm (.tail _ (.tail _ (.head _))), (h.pt (.tail _ (.head _))).1, (h.pt (.tail _ (.head _))).2, (h.pt (.head _)).1, (h.pt (.head _)).2⟩
end

set_option maxRecDepth 100000 in
set_option maxHeartbeats 8000000 in
theorem fcut_any (L H a b : Int × Int) (hL : L.1 ≤ H.1 ∧ L.2 ≤ H.2) (hg : gdL [L, H] = true) (ha : Gd a) (hb : Gd b) (w : World) :
    Calls Try.prog 25 #[.agg #[.int .i64 L.1, .int .i64 L.2, .int .i64 H.1, .int .i64 H.2, .int .i64 L.1, .int .i64 L.2, .int .i64 H.1, .int .i64 L.2, .int .i64 H.1, .int .i64 H.2, .int .i64 L.1, .int .i64 H.2], .agg #[.int .i64 a.1, .int .i64 a.2], .agg #[.int .i64 b.1, .int .i64 b.2]] w fun e w' => e = .returned (.bool (cutV L H a b)) ∧ Below w.heap.size w w' := by
  have HQ := (((Hold.refl w).new #[.int .i64 L.1, .int .i64 L.2, .int .i64 H.1, .int .i64 H.2, .int .i64 L.1, .int .i64 L.2, .int .i64 H.1, .int .i64 L.2, .int .i64 H.1, .int .i64 H.2, .int .i64 L.1, .int .i64 H.2] 48).new' #[.int .i64 a.1, .int .i64 a.2] 23 (n := w.heap.size + 1) (by simp)).new' #[.int .i64 b.1, .int .i64 b.2] 23 (n := w.heap.size + 1 + 1) (by simp)
  have HA := Lib.hid (fun W => fhas_any L H a W)
  have HM := Lib.hid (fun k W => by
    have := Meet_any a b (cor L H k) (cor L H ((k + 1) % 4)) W
    unfold mv me at this
    rw [if_pos (gdL_four.2 ⟨ha, hb, cor_gd hg k, cor_gd hg _⟩), if_pos (gdL_four.2 ⟨ha, hb, cor_gd hg k, cor_gd hg _⟩)] at this
    exact this)
  have HLE := Lib.hid hL
  clear ha hb hg hL
  go_enter Try.func25, Try.ntmps25
  go_upto_region 1 with (fail)
  generalize (World.alloc _ _) = W1 at HQ ⊢
  generalize w.heap.size + 1 + 1 = g2 at HQ ⊢
  generalize w.heap.size + 1 = g1 at HQ ⊢
  obtain ⟨g0, hg0⟩ : ∃ g, w.heap.size = g := ⟨_, rfl⟩
  rw [hg0] at HQ ⊢
  have HG0 := Lib.hid hg0
  clear hg0
  obtain ⟨⟨⟨c0, c1, c2, c3⟩, c4, c5, c6, c7, c8, c9, c10, c11⟩, d0, d1, e0, e1⟩ := HQ.fab
  go_wp2_with fail
  go_at_call 23
  refine (HA.out _).mono ?_
  rintro e w1 ⟨rfl, hB⟩
  replace HQ := HQ.on hB
  clear hB c0 c1 c2 c3 c4 c5 c6 c7 c8 c9 c10 c11 d0 d1 e0 e1 HA
  cases ha : hasB L H a
  · have HALL := Lib.hid (fun h => passed_all (b := b) HLE.out ha h)
    have HYES := Lib.hid (fun k hk h => passed_yes (a := a) (b := b) HLE.out (k := k) hk h)
    clear ha
    obtain ⟨⟨⟨c0, c1, c2, c3⟩, c4, c5, c6, c7, c8, c9, c10, c11⟩, d0, d1, e0, e1⟩ := HQ.fab
    go_wp2_with fail
    go_loopg [17] 4 (fun g i wr => ((g = 4 ∧ i = .int .i64 0 ∧ Passed L H a b 0) ∨ (g = 3 ∧ i = .int .i64 1 ∧ Passed L H a b 1) ∨ (g = 2 ∧ i = .int .i64 2 ∧ Passed L H a b 2) ∨ (g = 1 ∧ i = .int .i64 3 ∧ Passed L H a b 3) ∨ (g = 0 ∧ i = .int .i64 4 ∧ Passed L H a b 4)) ∧ Hold w [(g2, #[.int .i64 b.1, .int .i64 b.2], 23), (g1, #[.int .i64 a.1, .int .i64 a.2], 23), (g0, #[.int .i64 L.1, .int .i64 L.2, .int .i64 H.1, .int .i64 H.2, .int .i64 L.1, .int .i64 L.2, .int .i64 H.1, .int .i64 L.2, .int .i64 H.1, .int .i64 H.2, .int .i64 L.1, .int .i64 H.2], 48)] wr)
    case atStart => exact ⟨.inl ⟨rfl, rfl, fun i hi => absurd hi (by omega)⟩, HQ⟩
    case round =>
      clear HQ c0 c1 c2 c3 c4 c5 c6 c7 c8 c9 c10 c11 d0 d1 e0 e1
      obtain ⟨hd, HQ⟩ := hrel
      rcases hd with ⟨rfl, rfl, hp⟩ | ⟨rfl, rfl, hp⟩ | ⟨rfl, rfl, hp⟩ | ⟨rfl, rfl, hp⟩ | ⟨rfl, rfl, hp⟩
      · have HQ2 := (HQ.alloc (Obj.cells #[.int .i64 L.1, .int .i64 L.2] 23)).alloc (Obj.cells #[.int .i64 H.1, .int .i64 L.2] 23)
        have HQ3 := (HQ.new #[.int .i64 L.1, .int .i64 L.2] 23).new' #[.int .i64 H.1, .int .i64 L.2] 23 (n := wr.heap.size + 1) (by simp only [World.size_alloc])
        obtain ⟨⟨⟨c0, c1, c2, c3⟩, c4, c5, c6, c7, c8, c9, c10, c11⟩, d0, d1, e0, e1⟩ := HQ.fab
        obtain ⟨⟨⟨c20, c21, c22, c23⟩, c24, c25, c26, c27, c28, c29, c210, c211⟩, d20, d21, e20, e21⟩ := HQ2.fab
        obtain ⟨p0, p1⟩ := HQ3.pt (.head _)
        obtain ⟨p2, p3⟩ := HQ3.pt (.tail _ (.head _))
        have f0 := four_0 L H
        have y0 := (HQ.alloc (Obj.cells #[.int .i64 L.1, .int .i64 L.2] 23)).cell (.tail _ (.tail _ (.head _))) 6
        have y1 := (HQ.alloc (Obj.cells #[.int .i64 L.1, .int .i64 L.2] 23)).cell (.tail _ (.tail _ (.head _))) 7
        simp only [List.getElem?_toArray, List.getElem?_cons_zero, List.getElem?_cons_succ] at y0 y1
        have HMK : Hid (∀ W, Calls Try.prog 34 #[.agg #[.int .i64 a.1, .int .i64 a.2], .agg #[.int .i64 b.1, .int .i64 b.2], .agg #[.int .i64 L.1, .int .i64 L.2], .agg #[.int .i64 H.1, .int .i64 L.2]] W fun e w' => e = .returned (.tuple #[.int .i64 (meetN a b (cor L H 0) (cor L H ((0 + 1) % 4))), .int .i64 0]) ∧ Below W.heap.size W w') := HM.out 0
        have HPK : Hid (¬ 0 < meetN a b (cor L H 0) (cor L H ((0 + 1) % 4)) → Passed L H a b (0 + 1)) := passed_succ hp
        have HYK : Hid (0 < meetN a b (cor L H 0) (cor L H ((0 + 1) % 4)) → cutV L H a b = true) := HYES.out 0 (by omega)
        clear hp HYES HALL HM HQ3
        generalize meetN a b (cor L H 0) (cor L H ((0 + 1) % 4)) = m at *
        go_wp2_with fail
        go_at_call 34
        refine (HMK.out _).mono ?_
        rintro e w2 ⟨rfl, hB⟩
        have HX := Lib.hid (HQ2.on hB)
        clear hB HQ HQ2 HMK c0 c1 c2 c3 c4 c5 c6 c7 c8 c9 c10 c11 d0 d1 e0 e1 c20 c21 c22 c23 c24 c25 c26 c27 c28 c29 c210 c211 d20 d21 e20 e21 p0 p1 p2 p3 f0 y0 y1
        by_cases hm : 0 < m
        · have HE := Lib.hid (HYK.out hm)
          clear HYK HPK
          go_wp2
          go_ret
          rw [HE.out]
          exact ⟨rfl, HX.out.1⟩
        · have HN := Lib.hid (HPK.out (by omega))
          clear HYK HPK
          go_wp2
          go_roundg 3
          case measure => omega
          case rel => exact ⟨.inr (.inl ⟨rfl, rfl, HN.out⟩), HX.out⟩
      · have HQ2 := (HQ.alloc (Obj.cells #[.int .i64 H.1, .int .i64 L.2] 23)).alloc (Obj.cells #[.int .i64 H.1, .int .i64 H.2] 23)
        have HQ3 := (HQ.new #[.int .i64 H.1, .int .i64 L.2] 23).new' #[.int .i64 H.1, .int .i64 H.2] 23 (n := wr.heap.size + 1) (by simp only [World.size_alloc])
        obtain ⟨⟨⟨c0, c1, c2, c3⟩, c4, c5, c6, c7, c8, c9, c10, c11⟩, d0, d1, e0, e1⟩ := HQ.fab
        obtain ⟨⟨⟨c20, c21, c22, c23⟩, c24, c25, c26, c27, c28, c29, c210, c211⟩, d20, d21, e20, e21⟩ := HQ2.fab
        obtain ⟨p0, p1⟩ := HQ3.pt (.head _)
        obtain ⟨p2, p3⟩ := HQ3.pt (.tail _ (.head _))
        have f0 := four_1 L H
        have y0 := (HQ.alloc (Obj.cells #[.int .i64 H.1, .int .i64 L.2] 23)).cell (.tail _ (.tail _ (.head _))) 8
        have y1 := (HQ.alloc (Obj.cells #[.int .i64 H.1, .int .i64 L.2] 23)).cell (.tail _ (.tail _ (.head _))) 9
        simp only [List.getElem?_toArray, List.getElem?_cons_zero, List.getElem?_cons_succ] at y0 y1
        have HMK : Hid (∀ W, Calls Try.prog 34 #[.agg #[.int .i64 a.1, .int .i64 a.2], .agg #[.int .i64 b.1, .int .i64 b.2], .agg #[.int .i64 H.1, .int .i64 L.2], .agg #[.int .i64 H.1, .int .i64 H.2]] W fun e w' => e = .returned (.tuple #[.int .i64 (meetN a b (cor L H 1) (cor L H ((1 + 1) % 4))), .int .i64 0]) ∧ Below W.heap.size W w') := HM.out 1
        have HPK : Hid (¬ 0 < meetN a b (cor L H 1) (cor L H ((1 + 1) % 4)) → Passed L H a b (1 + 1)) := passed_succ hp
        have HYK : Hid (0 < meetN a b (cor L H 1) (cor L H ((1 + 1) % 4)) → cutV L H a b = true) := HYES.out 1 (by omega)
        clear hp HYES HALL HM HQ3
        generalize meetN a b (cor L H 1) (cor L H ((1 + 1) % 4)) = m at *
        go_wp2_with fail
        go_at_call 34
        refine (HMK.out _).mono ?_
        rintro e w2 ⟨rfl, hB⟩
        have HX := Lib.hid (HQ2.on hB)
        clear hB HQ HQ2 HMK c0 c1 c2 c3 c4 c5 c6 c7 c8 c9 c10 c11 d0 d1 e0 e1 c20 c21 c22 c23 c24 c25 c26 c27 c28 c29 c210 c211 d20 d21 e20 e21 p0 p1 p2 p3 f0 y0 y1
        by_cases hm : 0 < m
        · have HE := Lib.hid (HYK.out hm)
          clear HYK HPK
          go_wp2
          go_ret
          rw [HE.out]
          exact ⟨rfl, HX.out.1⟩
        · have HN := Lib.hid (HPK.out (by omega))
          clear HYK HPK
          go_wp2
          go_roundg 2
          case measure => omega
          case rel => exact ⟨.inr (.inr (.inl ⟨rfl, rfl, HN.out⟩)), HX.out⟩
      · have HQ2 := (HQ.alloc (Obj.cells #[.int .i64 H.1, .int .i64 H.2] 23)).alloc (Obj.cells #[.int .i64 L.1, .int .i64 H.2] 23)
        have HQ3 := (HQ.new #[.int .i64 H.1, .int .i64 H.2] 23).new' #[.int .i64 L.1, .int .i64 H.2] 23 (n := wr.heap.size + 1) (by simp only [World.size_alloc])
        obtain ⟨⟨⟨c0, c1, c2, c3⟩, c4, c5, c6, c7, c8, c9, c10, c11⟩, d0, d1, e0, e1⟩ := HQ.fab
        obtain ⟨⟨⟨c20, c21, c22, c23⟩, c24, c25, c26, c27, c28, c29, c210, c211⟩, d20, d21, e20, e21⟩ := HQ2.fab
        obtain ⟨p0, p1⟩ := HQ3.pt (.head _)
        obtain ⟨p2, p3⟩ := HQ3.pt (.tail _ (.head _))
        have f0 := four_2 L H
        have y0 := (HQ.alloc (Obj.cells #[.int .i64 H.1, .int .i64 H.2] 23)).cell (.tail _ (.tail _ (.head _))) 10
        have y1 := (HQ.alloc (Obj.cells #[.int .i64 H.1, .int .i64 H.2] 23)).cell (.tail _ (.tail _ (.head _))) 11
        simp only [List.getElem?_toArray, List.getElem?_cons_zero, List.getElem?_cons_succ] at y0 y1
        have HMK : Hid (∀ W, Calls Try.prog 34 #[.agg #[.int .i64 a.1, .int .i64 a.2], .agg #[.int .i64 b.1, .int .i64 b.2], .agg #[.int .i64 H.1, .int .i64 H.2], .agg #[.int .i64 L.1, .int .i64 H.2]] W fun e w' => e = .returned (.tuple #[.int .i64 (meetN a b (cor L H 2) (cor L H ((2 + 1) % 4))), .int .i64 0]) ∧ Below W.heap.size W w') := HM.out 2
        have HPK : Hid (¬ 0 < meetN a b (cor L H 2) (cor L H ((2 + 1) % 4)) → Passed L H a b (2 + 1)) := passed_succ hp
        have HYK : Hid (0 < meetN a b (cor L H 2) (cor L H ((2 + 1) % 4)) → cutV L H a b = true) := HYES.out 2 (by omega)
        clear hp HYES HALL HM HQ3
        generalize meetN a b (cor L H 2) (cor L H ((2 + 1) % 4)) = m at *
        go_wp2_with fail
        go_at_call 34
        refine (HMK.out _).mono ?_
        rintro e w2 ⟨rfl, hB⟩
        have HX := Lib.hid (HQ2.on hB)
        clear hB HQ HQ2 HMK c0 c1 c2 c3 c4 c5 c6 c7 c8 c9 c10 c11 d0 d1 e0 e1 c20 c21 c22 c23 c24 c25 c26 c27 c28 c29 c210 c211 d20 d21 e20 e21 p0 p1 p2 p3 f0 y0 y1
        by_cases hm : 0 < m
        · have HE := Lib.hid (HYK.out hm)
          clear HYK HPK
          go_wp2
          go_ret
          rw [HE.out]
          exact ⟨rfl, HX.out.1⟩
        · have HN := Lib.hid (HPK.out (by omega))
          clear HYK HPK
          go_wp2
          go_roundg 1
          case measure => omega
          case rel => exact ⟨.inr (.inr (.inr (.inl ⟨rfl, rfl, HN.out⟩))), HX.out⟩
      · have HQ2 := (HQ.alloc (Obj.cells #[.int .i64 L.1, .int .i64 H.2] 23)).alloc (Obj.cells #[.int .i64 L.1, .int .i64 L.2] 23)
        have HQ3 := (HQ.new #[.int .i64 L.1, .int .i64 H.2] 23).new' #[.int .i64 L.1, .int .i64 L.2] 23 (n := wr.heap.size + 1) (by simp only [World.size_alloc])
        obtain ⟨⟨⟨c0, c1, c2, c3⟩, c4, c5, c6, c7, c8, c9, c10, c11⟩, d0, d1, e0, e1⟩ := HQ.fab
        obtain ⟨⟨⟨c20, c21, c22, c23⟩, c24, c25, c26, c27, c28, c29, c210, c211⟩, d20, d21, e20, e21⟩ := HQ2.fab
        obtain ⟨p0, p1⟩ := HQ3.pt (.head _)
        obtain ⟨p2, p3⟩ := HQ3.pt (.tail _ (.head _))
        have f0 := four_3 L H
        have y0 := (HQ.alloc (Obj.cells #[.int .i64 L.1, .int .i64 H.2] 23)).cell (.tail _ (.tail _ (.head _))) 4
        have y1 := (HQ.alloc (Obj.cells #[.int .i64 L.1, .int .i64 H.2] 23)).cell (.tail _ (.tail _ (.head _))) 5
        simp only [List.getElem?_toArray, List.getElem?_cons_zero, List.getElem?_cons_succ] at y0 y1
        have HMK : Hid (∀ W, Calls Try.prog 34 #[.agg #[.int .i64 a.1, .int .i64 a.2], .agg #[.int .i64 b.1, .int .i64 b.2], .agg #[.int .i64 L.1, .int .i64 H.2], .agg #[.int .i64 L.1, .int .i64 L.2]] W fun e w' => e = .returned (.tuple #[.int .i64 (meetN a b (cor L H 3) (cor L H ((3 + 1) % 4))), .int .i64 0]) ∧ Below W.heap.size W w') := HM.out 3
        have HPK : Hid (¬ 0 < meetN a b (cor L H 3) (cor L H ((3 + 1) % 4)) → Passed L H a b (3 + 1)) := passed_succ hp
        have HYK : Hid (0 < meetN a b (cor L H 3) (cor L H ((3 + 1) % 4)) → cutV L H a b = true) := HYES.out 3 (by omega)
        clear hp HYES HALL HM HQ3
        generalize meetN a b (cor L H 3) (cor L H ((3 + 1) % 4)) = m at *
        go_wp2_with fail
        go_at_call 34
        refine (HMK.out _).mono ?_
        rintro e w2 ⟨rfl, hB⟩
        have HX := Lib.hid (HQ2.on hB)
        clear hB HQ HQ2 HMK c0 c1 c2 c3 c4 c5 c6 c7 c8 c9 c10 c11 d0 d1 e0 e1 c20 c21 c22 c23 c24 c25 c26 c27 c28 c29 c210 c211 d20 d21 e20 e21 p0 p1 p2 p3 f0 y0 y1
        by_cases hm : 0 < m
        · have HE := Lib.hid (HYK.out hm)
          clear HYK HPK
          go_wp2
          go_ret
          rw [HE.out]
          exact ⟨rfl, HX.out.1⟩
        · have HN := Lib.hid (HPK.out (by omega))
          clear HYK HPK
          go_wp2
          go_roundg 0
          case measure => omega
          case rel => exact ⟨.inr (.inr (.inr (.inr (⟨rfl, rfl, HN.out⟩)))), HX.out⟩
      · have HE : Hid (cutV L H a b = false) := HALL.out hp
        have HB := Lib.hid HQ.1
        clear HQ hp HALL HYES
        go_wp2
        go_ret
        rw [HE.out]
        exact ⟨rfl, HB.out⟩
  · have HE : Hid (cutV L H a b = true) := cutV_iff.2 (cut_in (hasB_iff.1 ha))
    have HB := Lib.hid HQ.1
    clear ha HQ
    go_wp2
    go_ret
    rw [HE.out]
    exact ⟨rfl, HB.out⟩
end Go.Proofs.Ytjpjlnijmhjoaaa
