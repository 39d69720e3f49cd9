/- The program's Span: the cells of a window. -/
import Derived.Test.YtfihddpidaidiaaGridA
namespace Go.Proofs.Ytfihddpidaidiaa
open Go.RowKit

def encP (p : Int × Int) : List Value := [.int .i64 p.1, .int .i64 p.2]
theorem kindC : Kind 24 encP 2 16 := Kind.mk' (z := .agg #[.int .i64 0, .int .i64 0]) (fun _ => rfl) (fun a u hu => by
  simp only [encP, List.mem_cons, List.not_mem_nil, or_false] at hu
  rcases hu with rfl | rfl <;> rfl) (by decide) (by kernel_rfl) rfl
theorem RowI.based {α : Type} {T : TypeId} {enc : α → List Value} {n : Nat} {w w1 W : World} {v : Value} {l : List α} (h : RowI w1 T n enc v l W) (hb : Below w.heap.size w w1) : RowI w T n enc v l W :=
  ⟨Below.trans hb (h.1.mono hb.size), h.2.1, h.2.2.imp id (fun ⟨g, cap, cur, e, hg, r⟩ => ⟨g, cap, cur, e, Nat.le_trans hb.size hg, r⟩)⟩
theorem box_at {W W' : World} {g : Nat} {a b : Value} {t : TypeId} (h : W.heap[g]? = some (.cells #[a, b] t (0, 0))) (hb : Below W.heap.size W W') : W'.cell? ⟨g, 0, none⟩ = some a ∧ W'.cell? ⟨g, 1, none⟩ = some b := by
  have h' := (hb.block _ (blk_lt h)).trans h
  exact ⟨blk_cell h' 0, blk_cell h' 1⟩
/-- The cells that Span answers. -/
def spanL (L H : Int × Int) : List (Int × Int) := if wnE L H = 0 then spL L H else []
theorem spanL_bad {L H : Int × Int} (h : wnE L H ≠ 0) : spanL L H = [] := if_neg h
theorem spanL_good {L H : Int × Int} (h : wnE L H = 0) : spanL L H = spL L H := if_pos h
theorem two_good {L H : Int × Int} (h : gdL [L, H] = true) : gd L = true ∧ gd H = true := by simpa [gdL] using h
set_option maxRecDepth 100000 in
set_option maxHeartbeats 4000000 in
theorem span_bad (L H : Int × Int) (he : wnE L H ≠ 0) (w : World) :
    Calls Try.prog 13 #[.agg #[.int .i64 L.1, .int .i64 L.2, .int .i64 H.1, .int .i64 H.2]] w fun e w' => e = .returned (.tuple #[.slice none 0 0, .int .i64 (wnE L H)]) ∧ Below w.heap.size w w' := by
  have HCK := Lib.hid (fun W => wcheck_any L H W)
  have e0 : (wnE L H == 0) = false := by simpa using he
  clear he
  generalize wnE L H = x at *
  have HQ := (Hold.refl w).new #[.int .i64 L.1, .int .i64 L.2, .int .i64 H.1, .int .i64 H.2] 34
  go_enter Try.func13, Try.ntmps13
  go_upto_region 1 with (fail)
  generalize (World.alloc _ _) = W1 at HQ ⊢
  obtain ⟨g0, hg0⟩ : ∃ g, w.heap.size = g := ⟨_, rfl⟩
  rw [hg0] at HQ ⊢
  have HG0 := Lib.hid hg0
  clear hg0
  obtain ⟨c0, c1, c2, c3⟩ := HQ.win (.head _)
  go_wp2_with fail
  go_at_call 26
  refine (HCK.out _).mono ?_
  rintro e w1 ⟨rfl, hB⟩
  have HB := Lib.hid (HQ.on hB).1
  clear HQ hB c0 c1 c2 c3
  go_wp2
  refine bodyPost_ret (v := .tuple #[.slice none 0 0, .int .i64 x]) ?_ rfl ⟨rfl, HG0.out ▸ HB.out⟩
  simp [results, Try.results13, go_sem]
set_option maxRecDepth 100000 in
set_option maxHeartbeats 20000000 in
theorem span_good (L H : Int × Int) (he : wnE L H = 0) (w : World) :
    Calls Try.prog 13 #[.agg #[.int .i64 L.1, .int .i64 L.2, .int .i64 H.1, .int .i64 H.2]] w fun e w' => ∃ v, e = .returned (.tuple #[v, .int .i64 0]) ∧ RowI w 24 2 encP v (spL L H) w' := by
  obtain ⟨hg, hl1, hl2⟩ := wnE_zero.1 he
  obtain ⟨hgL, hgH⟩ := two_good hg
  have HCK : Hid (∀ W, Calls Try.prog 26 #[.agg #[.int .i64 L.1, .int .i64 L.2, .int .i64 H.1, .int .i64 H.2]] W fun e w' => e = .returned (.int .i64 0) ∧ Below W.heap.size W w') := fun W => by
    have h := wcheck_any L H W
    rw [he] at h
    exact h
  have HF1 := Lib.hid (fun W => cellOf_any L hgL W)
  have HF2 := Lib.hid (fun W => cellOf_any H hgH W)
  have hGL := gd_iff.1 hgL
  have hGH := gd_iff.1 hgH
  have HSP : Hid (spL L H = spP (cdP L).1 (wdN L.1 H.1) (cdP L).2 (wdN L.2 H.2)) := rfl
  have HN1 := Lib.hid (wdN_eq hl1)
  have HN2 := Lib.hid (wdN_eq hl2)
  have HB1 := Lib.hid (cdv_bd (n := L.1) ⟨hGL.1, hGL.2.1⟩)
  have HB2 := Lib.hid (cdv_bd (n := L.2) hGL.2.2)
  have HB3 := Lib.hid (cdv_bd (n := H.1) ⟨hGH.1, hGH.2.1⟩)
  have HB4 := Lib.hid (cdv_bd (n := H.2) hGH.2.2)
  have e1 : (cdP L).1 = cdv L.1 := rfl
  have e2 : (cdP L).2 = cdv L.2 := rfl
  have e3 : (cdP H).1 = cdv H.1 := rfl
  have e4 : (cdP H).2 = cdv H.2 := rfl
  rw [← e1, ← e3] at HN1
  rw [← e2, ← e4] at HN2
  rw [← e1] at HB1
  rw [← e2] at HB2
  rw [← e3] at HB3
  rw [← e4] at HB4
  clear he hg hl1 hl2 hgL hgH hGL hGH e1 e2 e3 e4
  generalize spL L H = sp at *
  generalize cdP L = x at *
  generalize cdP H = z at *
  generalize wdN L.1 H.1 = n at *
  generalize wdN L.2 H.2 = m at *
  have HQ := (Hold.refl w).new #[.int .i64 L.1, .int .i64 L.2, .int .i64 H.1, .int .i64 H.2] 34
  go_enter Try.func13, Try.ntmps13
  go_upto_region 1 with (fail)
  generalize (World.alloc _ _) = W1 at HQ ⊢
  obtain ⟨g0, hg0⟩ : ∃ g, w.heap.size = g := ⟨_, rfl⟩
  rw [hg0] at HQ ⊢
  have HG0 := Lib.hid hg0
  clear hg0
  obtain ⟨c0, c1, c2, c3⟩ := HQ.win (.head _)
  go_upto_region 4 with (go_at_call 26; go_must ((with_reducible refine (HCK.out _).mono ?_); rintro e w1 ⟨rfl, hB⟩; have HQ1 := HQ.on hB; clear HQ hB c0 c1 c2 c3))
  go_cut [5, 6] (fun s5 s6 wx => ∃ g5 g6, s5 = .pointer (some ⟨g5, 0, none⟩) ∧ s6 = .pointer (some ⟨g6, 0, none⟩) ∧ Below w.heap.size w wx ∧ wx.heap[g5]? = some (.cells #[.int .i64 x.1, .int .i64 x.2] 24 (0, 0)) ∧ wx.heap[g6]? = some (.cells #[.int .i64 z.1, .int .i64 z.2] 24 (0, 0)))
  case first =>
    as_aux_lemma =>
      have h2 := HQ1.drew
      clear HQ1 HSP HN1 HN2 HB1 HB2 HB3 HB4
      refine wp_region_held_drew (S := fun W => W.cell? ⟨g0, 0, none⟩ = some (.int .i64 L.1) ∧ W.cell? ⟨g0, 1, none⟩ = some (.int .i64 L.2) ∧ W.cell? ⟨g0, 2, none⟩ = some (.int .i64 H.1) ∧ W.cell? ⟨g0, 3, none⟩ = some (.int .i64 H.2)) (by kernel_rfl) ?_ (fun hHeld => ?_)
      · (try dsimp only)
        exact h2.win (.head _)
      refine tZ 0 ?_; refine tZ 1 ?_; refine tZ 3 ?_; refine tZ 4 ?_
      generalize (World.drew _) = W2 at h2 hHeld ⊢
      refine wpAnyH_ready (rs := [2, 6, 7]) (by decide +kernel) (by simp) ?_
      refine AllReadyH.cons rfl (fun K hK => ?_) (AllReadyH.cons rfl (fun K hK => ?_) (AllReadyH.cons rfl (fun K hK => ?_) AllReadyH.nil))
      · (try simp only [jA, jB, jC])
        go_simp
        go_at_call 24
        refine (HF1.out _).mono ?_
        rintro e' W3 ⟨rfl, hB2⟩
        have h3 := h2.on hB2
        refine hK.out _ _ ?_ (fun hHeld => ?_)
        focus ((try dsimp only); exact h3.win (.head _); done)
        clear hK K
        (try simp only [Act.put, jA, jB, jC, jD, jE, jF])
        refine wpAnyH_ready (rs := [5, 6, 7]) (by decide +kernel) (by simp) ?_
        refine AllReadyH.cons rfl (fun K hK => ?_) (AllReadyH.cons rfl (fun K hK => ?_) (AllReadyH.cons rfl (fun K hK => ?_) AllReadyH.nil))
        · (try simp only [jA, jB, jC])
          go_simp
          go_at_call 24
          refine (HF2.out _).mono ?_
          rintro e' W4 ⟨rfl, hB3⟩
          have h4 := h3.on hB3
          refine hK.out _ _ ?_ (fun hHeld => ?_)
          focus ((try dsimp only); exact h4.win (.head _); done)
          clear hK K
          (try simp only [Act.put, jA, jB, jC, jD, jE, jF])
          refine wpAnyH_ready (rs := [6, 7]) (by decide +kernel) (by simp) ?_
          refine AllReadyH.cons rfl (fun K hK => ?_) (AllReadyH.cons rfl (fun K hK => ?_) AllReadyH.nil)
          · have h5 := h4.new #[.int .i64 0, .int .i64 0] 24
            (try simp only [jA, jB, jC])
            go_simp
            refine hK.out _ _ ?_ (fun hHeld => ?_)
            focus ((try dsimp only); exact h5.win (.tail _ (.head _)); done)
            clear hK K
            (try simp only [Act.put, jA, jB, jC, jD, jE, jF])
            generalize (World.alloc _ _) = W5 at h5 hHeld ⊢
            generalize W4.heap.size = g5 at h5 ⊢
            refine wpAnyH_ready (rs := [7]) (by decide +kernel) (by simp) ?_
            refine AllReadyH.cons rfl (fun K hK => ?_) AllReadyH.nil
            have h6 := h5.new #[.int .i64 0, .int .i64 0] 24
            (try simp only [jA, jB, jC])
            go_simp
            refine hK.out _ _ ?_ (fun hHeld => ?_)
            focus ((try dsimp only); exact h6.win (.tail _ (.tail _ (.head _))); done)
            clear hK K
            (try simp only [Act.put, jA, jB, jC, jD, jE, jF])
            generalize (World.alloc _ _) = W6 at h6 hHeld ⊢
            generalize W5.heap.size = g6 at h6 ⊢
            obtain ⟨_, _⟩ := h6.pt (.tail _ (.head _))
            obtain ⟨_, _⟩ := h6.fz (.tail _ (.head _))
            have hA := h6.swap2 (.int .i64 x.1) (.int .i64 x.2)
            refine wpAnyH_ready (rs := [8]) (by decide +kernel) (by simp) ?_
            refine AllReadyH.cons rfl (fun K hK => ?_) AllReadyH.nil
            (try simp only [jA, jB, jC])
            go_simp
            refine hK.out _ _ ?_ (fun hHeld => ?_)
            focus ((try dsimp only); exact hA.win (.tail _ (.tail _ (.head _))); done)
            clear hK K
            (try simp only [Act.put, jA, jB, jC, jD, jE, jF])
            generalize (World.setCell _ _ _) = WA at hA hHeld ⊢
            obtain ⟨_, _⟩ := hA.pt (.head _)
            obtain ⟨_, _⟩ := hA.fz (.head _)
            have hC := hA.set2 (.int .i64 z.1) (.int .i64 z.2)
            refine wpAnyH_ready (rs := [9]) (by decide +kernel) (by simp) ?_
            refine AllReadyH.cons rfl (fun K hK => ?_) AllReadyH.nil
            (try simp only [jA, jB, jC])
            go_simp
            refine hK.out _ _ ?_ (fun hHeld => ?_)
            focus ((try dsimp only); exact hC.win (.tail _ (.tail _ (.head _))); done)
            clear hK K
            (try simp only [Act.put, jA, jB, jC, jD, jE, jF])
            refine wpAnyH_done (by decide +kernel) ?_ _
            go_wp2_with fail
            go_meet
            exact ⟨_, _, rfl, rfl, hC.1, (hC.2.1 _ (.tail _ (.head _))).1, (hC.2.1 _ (.head _)).1⟩
          · have h5 := h4.new #[.int .i64 0, .int .i64 0] 24
            (try simp only [jA, jB, jC])
            go_simp
            refine hK.out _ _ ?_ (fun hHeld => ?_)
            focus ((try dsimp only); exact h5.win (.tail _ (.head _)); done)
            clear hK K
            (try simp only [Act.put, jA, jB, jC, jD, jE, jF])
            generalize (World.alloc _ _) = W5 at h5 hHeld ⊢
            generalize W4.heap.size = g6 at h5 ⊢
            refine wpAnyH_ready (rs := [6]) (by decide +kernel) (by simp) ?_
            refine AllReadyH.cons rfl (fun K hK => ?_) AllReadyH.nil
            have h6 := h5.new #[.int .i64 0, .int .i64 0] 24
            (try simp only [jA, jB, jC])
            go_simp
            refine hK.out _ _ ?_ (fun hHeld => ?_)
            focus ((try dsimp only); exact h6.win (.tail _ (.tail _ (.head _))); done)
            clear hK K
            (try simp only [Act.put, jA, jB, jC, jD, jE, jF])
            generalize (World.alloc _ _) = W6 at h6 hHeld ⊢
            generalize W5.heap.size = g5 at h6 ⊢
            obtain ⟨_, _⟩ := h6.pt (.head _)
            obtain ⟨_, _⟩ := h6.fz (.head _)
            have hA := h6.set2 (.int .i64 x.1) (.int .i64 x.2)
            refine wpAnyH_ready (rs := [8]) (by decide +kernel) (by simp) ?_
            refine AllReadyH.cons rfl (fun K hK => ?_) AllReadyH.nil
            (try simp only [jA, jB, jC])
            go_simp
            refine hK.out _ _ ?_ (fun hHeld => ?_)
            focus ((try dsimp only); exact hA.win (.tail _ (.tail _ (.head _))); done)
            clear hK K
            (try simp only [Act.put, jA, jB, jC, jD, jE, jF])
            generalize (World.setCell _ _ _) = WA at hA hHeld ⊢
            obtain ⟨_, _⟩ := hA.pt (.tail _ (.head _))
            obtain ⟨_, _⟩ := hA.fz (.tail _ (.head _))
            have hC := hA.swap2 (.int .i64 z.1) (.int .i64 z.2)
            refine wpAnyH_ready (rs := [9]) (by decide +kernel) (by simp) ?_
            refine AllReadyH.cons rfl (fun K hK => ?_) AllReadyH.nil
            (try simp only [jA, jB, jC])
            go_simp
            refine hK.out _ _ ?_ (fun hHeld => ?_)
            focus ((try dsimp only); exact hC.win (.tail _ (.tail _ (.head _))); done)
            clear hK K
            (try simp only [Act.put, jA, jB, jC, jD, jE, jF])
            refine wpAnyH_done (by decide +kernel) ?_ _
            go_wp2_with fail
            go_meet
            exact ⟨_, _, rfl, rfl, hC.1, (hC.2.1 _ (.head _)).1, (hC.2.1 _ (.tail _ (.head _))).1⟩
        · have h4 := h3.new #[.int .i64 0, .int .i64 0] 24
          (try simp only [jA, jB, jC])
          go_simp
          refine hK.out _ _ ?_ (fun hHeld => ?_)
          focus ((try dsimp only); exact h4.win (.tail _ (.head _)); done)
          clear hK K
          (try simp only [Act.put, jA, jB, jC, jD, jE, jF])
          generalize (World.alloc _ _) = W4 at h4 hHeld ⊢
          generalize W3.heap.size = g5 at h4 ⊢
          refine wpAnyH_ready (rs := [5, 7]) (by decide +kernel) (by simp) ?_
          refine AllReadyH.cons rfl (fun K hK => ?_) (AllReadyH.cons rfl (fun K hK => ?_) AllReadyH.nil)
          · (try simp only [jA, jB, jC])
            go_simp
            go_at_call 24
            refine (HF2.out _).mono ?_
            rintro e' W5 ⟨rfl, hB4⟩
            have h5 := h4.on hB4
            refine hK.out _ _ ?_ (fun hHeld => ?_)
            focus ((try dsimp only); exact h5.win (.tail _ (.head _)); done)
            clear hK K
            (try simp only [Act.put, jA, jB, jC, jD, jE, jF])
            refine wpAnyH_ready (rs := [7]) (by decide +kernel) (by simp) ?_
            refine AllReadyH.cons rfl (fun K hK => ?_) AllReadyH.nil
            have h6 := h5.new #[.int .i64 0, .int .i64 0] 24
            (try simp only [jA, jB, jC])
            go_simp
            refine hK.out _ _ ?_ (fun hHeld => ?_)
            focus ((try dsimp only); exact h6.win (.tail _ (.tail _ (.head _))); done)
            clear hK K
            (try simp only [Act.put, jA, jB, jC, jD, jE, jF])
            generalize (World.alloc _ _) = W6 at h6 hHeld ⊢
            generalize W5.heap.size = g6 at h6 ⊢
            obtain ⟨_, _⟩ := h6.pt (.tail _ (.head _))
            obtain ⟨_, _⟩ := h6.fz (.tail _ (.head _))
            have hA := h6.swap2 (.int .i64 x.1) (.int .i64 x.2)
            refine wpAnyH_ready (rs := [8]) (by decide +kernel) (by simp) ?_
            refine AllReadyH.cons rfl (fun K hK => ?_) AllReadyH.nil
            (try simp only [jA, jB, jC])
            go_simp
            refine hK.out _ _ ?_ (fun hHeld => ?_)
            focus ((try dsimp only); exact hA.win (.tail _ (.tail _ (.head _))); done)
            clear hK K
            (try simp only [Act.put, jA, jB, jC, jD, jE, jF])
            generalize (World.setCell _ _ _) = WA at hA hHeld ⊢
            obtain ⟨_, _⟩ := hA.pt (.head _)
            obtain ⟨_, _⟩ := hA.fz (.head _)
            have hC := hA.set2 (.int .i64 z.1) (.int .i64 z.2)
            refine wpAnyH_ready (rs := [9]) (by decide +kernel) (by simp) ?_
            refine AllReadyH.cons rfl (fun K hK => ?_) AllReadyH.nil
            (try simp only [jA, jB, jC])
            go_simp
            refine hK.out _ _ ?_ (fun hHeld => ?_)
            focus ((try dsimp only); exact hC.win (.tail _ (.tail _ (.head _))); done)
            clear hK K
            (try simp only [Act.put, jA, jB, jC, jD, jE, jF])
            refine wpAnyH_done (by decide +kernel) ?_ _
            go_wp2_with fail
            go_meet
            exact ⟨_, _, rfl, rfl, hC.1, (hC.2.1 _ (.tail _ (.head _))).1, (hC.2.1 _ (.head _)).1⟩
          · have h5 := h4.new #[.int .i64 0, .int .i64 0] 24
            (try simp only [jA, jB, jC])
            go_simp
            refine hK.out _ _ ?_ (fun hHeld => ?_)
            focus ((try dsimp only); exact h5.win (.tail _ (.tail _ (.head _))); done)
            clear hK K
            (try simp only [Act.put, jA, jB, jC, jD, jE, jF])
            generalize (World.alloc _ _) = W5 at h5 hHeld ⊢
            generalize W4.heap.size = g6 at h5 ⊢
            refine wpAnyH_ready (rs := [5]) (by decide +kernel) (by simp) ?_
            refine AllReadyH.cons rfl (fun K hK => ?_) AllReadyH.nil
            (try simp only [jA, jB, jC])
            go_simp
            go_at_call 24
            refine (HF2.out _).mono ?_
            rintro e' W6 ⟨rfl, hB5⟩
            have h6 := h5.on hB5
            refine hK.out _ _ ?_ (fun hHeld => ?_)
            focus ((try dsimp only); exact h6.win (.tail _ (.tail _ (.head _))); done)
            clear hK K
            (try simp only [Act.put, jA, jB, jC, jD, jE, jF])
            obtain ⟨_, _⟩ := h6.pt (.tail _ (.head _))
            obtain ⟨_, _⟩ := h6.fz (.tail _ (.head _))
            have hA := h6.swap2 (.int .i64 x.1) (.int .i64 x.2)
            refine wpAnyH_ready (rs := [8]) (by decide +kernel) (by simp) ?_
            refine AllReadyH.cons rfl (fun K hK => ?_) AllReadyH.nil
            (try simp only [jA, jB, jC])
            go_simp
            refine hK.out _ _ ?_ (fun hHeld => ?_)
            focus ((try dsimp only); exact hA.win (.tail _ (.tail _ (.head _))); done)
            clear hK K
            (try simp only [Act.put, jA, jB, jC, jD, jE, jF])
            generalize (World.setCell _ _ _) = WA at hA hHeld ⊢
            obtain ⟨_, _⟩ := hA.pt (.head _)
            obtain ⟨_, _⟩ := hA.fz (.head _)
            have hC := hA.set2 (.int .i64 z.1) (.int .i64 z.2)
            refine wpAnyH_ready (rs := [9]) (by decide +kernel) (by simp) ?_
            refine AllReadyH.cons rfl (fun K hK => ?_) AllReadyH.nil
            (try simp only [jA, jB, jC])
            go_simp
            refine hK.out _ _ ?_ (fun hHeld => ?_)
            focus ((try dsimp only); exact hC.win (.tail _ (.tail _ (.head _))); done)
            clear hK K
            (try simp only [Act.put, jA, jB, jC, jD, jE, jF])
            refine wpAnyH_done (by decide +kernel) ?_ _
            go_wp2_with fail
            go_meet
            exact ⟨_, _, rfl, rfl, hC.1, (hC.2.1 _ (.tail _ (.head _))).1, (hC.2.1 _ (.head _)).1⟩
        · have h4 := h3.new #[.int .i64 0, .int .i64 0] 24
          (try simp only [jA, jB, jC])
          go_simp
          refine hK.out _ _ ?_ (fun hHeld => ?_)
          focus ((try dsimp only); exact h4.win (.tail _ (.head _)); done)
          clear hK K
          (try simp only [Act.put, jA, jB, jC, jD, jE, jF])
          generalize (World.alloc _ _) = W4 at h4 hHeld ⊢
          generalize W3.heap.size = g6 at h4 ⊢
          refine wpAnyH_ready (rs := [5, 6]) (by decide +kernel) (by simp) ?_
          refine AllReadyH.cons rfl (fun K hK => ?_) (AllReadyH.cons rfl (fun K hK => ?_) AllReadyH.nil)
          · (try simp only [jA, jB, jC])
            go_simp
            go_at_call 24
            refine (HF2.out _).mono ?_
            rintro e' W5 ⟨rfl, hB4⟩
            have h5 := h4.on hB4
            refine hK.out _ _ ?_ (fun hHeld => ?_)
            focus ((try dsimp only); exact h5.win (.tail _ (.head _)); done)
            clear hK K
            (try simp only [Act.put, jA, jB, jC, jD, jE, jF])
            refine wpAnyH_ready (rs := [6]) (by decide +kernel) (by simp) ?_
            refine AllReadyH.cons rfl (fun K hK => ?_) AllReadyH.nil
            have h6 := h5.new #[.int .i64 0, .int .i64 0] 24
            (try simp only [jA, jB, jC])
            go_simp
            refine hK.out _ _ ?_ (fun hHeld => ?_)
            focus ((try dsimp only); exact h6.win (.tail _ (.tail _ (.head _))); done)
            clear hK K
            (try simp only [Act.put, jA, jB, jC, jD, jE, jF])
            generalize (World.alloc _ _) = W6 at h6 hHeld ⊢
            generalize W5.heap.size = g5 at h6 ⊢
            obtain ⟨_, _⟩ := h6.pt (.head _)
            obtain ⟨_, _⟩ := h6.fz (.head _)
            have hA := h6.set2 (.int .i64 x.1) (.int .i64 x.2)
            refine wpAnyH_ready (rs := [8]) (by decide +kernel) (by simp) ?_
            refine AllReadyH.cons rfl (fun K hK => ?_) AllReadyH.nil
            (try simp only [jA, jB, jC])
            go_simp
            refine hK.out _ _ ?_ (fun hHeld => ?_)
            focus ((try dsimp only); exact hA.win (.tail _ (.tail _ (.head _))); done)
            clear hK K
            (try simp only [Act.put, jA, jB, jC, jD, jE, jF])
            generalize (World.setCell _ _ _) = WA at hA hHeld ⊢
            obtain ⟨_, _⟩ := hA.pt (.tail _ (.head _))
            obtain ⟨_, _⟩ := hA.fz (.tail _ (.head _))
            have hC := hA.swap2 (.int .i64 z.1) (.int .i64 z.2)
            refine wpAnyH_ready (rs := [9]) (by decide +kernel) (by simp) ?_
            refine AllReadyH.cons rfl (fun K hK => ?_) AllReadyH.nil
            (try simp only [jA, jB, jC])
            go_simp
            refine hK.out _ _ ?_ (fun hHeld => ?_)
            focus ((try dsimp only); exact hC.win (.tail _ (.tail _ (.head _))); done)
            clear hK K
            (try simp only [Act.put, jA, jB, jC, jD, jE, jF])
            refine wpAnyH_done (by decide +kernel) ?_ _
            go_wp2_with fail
            go_meet
            exact ⟨_, _, rfl, rfl, hC.1, (hC.2.1 _ (.head _)).1, (hC.2.1 _ (.tail _ (.head _))).1⟩
          · have h5 := h4.new #[.int .i64 0, .int .i64 0] 24
            (try simp only [jA, jB, jC])
            go_simp
            refine hK.out _ _ ?_ (fun hHeld => ?_)
            focus ((try dsimp only); exact h5.win (.tail _ (.tail _ (.head _))); done)
            clear hK K
            (try simp only [Act.put, jA, jB, jC, jD, jE, jF])
            generalize (World.alloc _ _) = W5 at h5 hHeld ⊢
            generalize W4.heap.size = g5 at h5 ⊢
            refine wpAnyH_ready (rs := [5]) (by decide +kernel) (by simp) ?_
            refine AllReadyH.cons rfl (fun K hK => ?_) AllReadyH.nil
            (try simp only [jA, jB, jC])
            go_simp
            go_at_call 24
            refine (HF2.out _).mono ?_
            rintro e' W6 ⟨rfl, hB5⟩
            have h6 := h5.on hB5
            refine hK.out _ _ ?_ (fun hHeld => ?_)
            focus ((try dsimp only); exact h6.win (.tail _ (.tail _ (.head _))); done)
            clear hK K
            (try simp only [Act.put, jA, jB, jC, jD, jE, jF])
            obtain ⟨_, _⟩ := h6.pt (.head _)
            obtain ⟨_, _⟩ := h6.fz (.head _)
            have hA := h6.set2 (.int .i64 x.1) (.int .i64 x.2)
            refine wpAnyH_ready (rs := [8]) (by decide +kernel) (by simp) ?_
            refine AllReadyH.cons rfl (fun K hK => ?_) AllReadyH.nil
            (try simp only [jA, jB, jC])
            go_simp
            refine hK.out _ _ ?_ (fun hHeld => ?_)
            focus ((try dsimp only); exact hA.win (.tail _ (.tail _ (.head _))); done)
            clear hK K
            (try simp only [Act.put, jA, jB, jC, jD, jE, jF])
            generalize (World.setCell _ _ _) = WA at hA hHeld ⊢
            obtain ⟨_, _⟩ := hA.pt (.tail _ (.head _))
            obtain ⟨_, _⟩ := hA.fz (.tail _ (.head _))
            have hC := hA.swap2 (.int .i64 z.1) (.int .i64 z.2)
            refine wpAnyH_ready (rs := [9]) (by decide +kernel) (by simp) ?_
            refine AllReadyH.cons rfl (fun K hK => ?_) AllReadyH.nil
            (try simp only [jA, jB, jC])
            go_simp
            refine hK.out _ _ ?_ (fun hHeld => ?_)
            focus ((try dsimp only); exact hC.win (.tail _ (.tail _ (.head _))); done)
            clear hK K
            (try simp only [Act.put, jA, jB, jC, jD, jE, jF])
            refine wpAnyH_done (by decide +kernel) ?_ _
            go_wp2_with fail
            go_meet
            exact ⟨_, _, rfl, rfl, hC.1, (hC.2.1 _ (.head _)).1, (hC.2.1 _ (.tail _ (.head _))).1⟩
      · have h3 := h2.new #[.int .i64 0, .int .i64 0] 24
        (try simp only [jA, jB, jC])
        go_simp
        refine hK.out _ _ ?_ (fun hHeld => ?_)
        focus ((try dsimp only); exact h3.win (.tail _ (.head _)); done)
        clear hK K
        (try simp only [Act.put, jA, jB, jC, jD, jE, jF])
        generalize (World.alloc _ _) = W3 at h3 hHeld ⊢
        generalize W2.heap.size = g5 at h3 ⊢
        refine wpAnyH_ready (rs := [2, 7]) (by decide +kernel) (by simp) ?_
        refine AllReadyH.cons rfl (fun K hK => ?_) (AllReadyH.cons rfl (fun K hK => ?_) AllReadyH.nil)
        · (try simp only [jA, jB, jC])
          go_simp
          go_at_call 24
          refine (HF1.out _).mono ?_
          rintro e' W4 ⟨rfl, hB3⟩
          have h4 := h3.on hB3
          refine hK.out _ _ ?_ (fun hHeld => ?_)
          focus ((try dsimp only); exact h4.win (.tail _ (.head _)); done)
          clear hK K
          (try simp only [Act.put, jA, jB, jC, jD, jE, jF])
          refine wpAnyH_ready (rs := [5, 7]) (by decide +kernel) (by simp) ?_
          refine AllReadyH.cons rfl (fun K hK => ?_) (AllReadyH.cons rfl (fun K hK => ?_) AllReadyH.nil)
          · (try simp only [jA, jB, jC])
            go_simp
            go_at_call 24
            refine (HF2.out _).mono ?_
            rintro e' W5 ⟨rfl, hB4⟩
            have h5 := h4.on hB4
            refine hK.out _ _ ?_ (fun hHeld => ?_)
            focus ((try dsimp only); exact h5.win (.tail _ (.head _)); done)
            clear hK K
            (try simp only [Act.put, jA, jB, jC, jD, jE, jF])
            refine wpAnyH_ready (rs := [7]) (by decide +kernel) (by simp) ?_
            refine AllReadyH.cons rfl (fun K hK => ?_) AllReadyH.nil
            have h6 := h5.new #[.int .i64 0, .int .i64 0] 24
            (try simp only [jA, jB, jC])
            go_simp
            refine hK.out _ _ ?_ (fun hHeld => ?_)
            focus ((try dsimp only); exact h6.win (.tail _ (.tail _ (.head _))); done)
            clear hK K
            (try simp only [Act.put, jA, jB, jC, jD, jE, jF])
            generalize (World.alloc _ _) = W6 at h6 hHeld ⊢
            generalize W5.heap.size = g6 at h6 ⊢
            obtain ⟨_, _⟩ := h6.pt (.tail _ (.head _))
            obtain ⟨_, _⟩ := h6.fz (.tail _ (.head _))
            have hA := h6.swap2 (.int .i64 x.1) (.int .i64 x.2)
            refine wpAnyH_ready (rs := [8]) (by decide +kernel) (by simp) ?_
            refine AllReadyH.cons rfl (fun K hK => ?_) AllReadyH.nil
            (try simp only [jA, jB, jC])
            go_simp
            refine hK.out _ _ ?_ (fun hHeld => ?_)
            focus ((try dsimp only); exact hA.win (.tail _ (.tail _ (.head _))); done)
            clear hK K
            (try simp only [Act.put, jA, jB, jC, jD, jE, jF])
            generalize (World.setCell _ _ _) = WA at hA hHeld ⊢
            obtain ⟨_, _⟩ := hA.pt (.head _)
            obtain ⟨_, _⟩ := hA.fz (.head _)
            have hC := hA.set2 (.int .i64 z.1) (.int .i64 z.2)
            refine wpAnyH_ready (rs := [9]) (by decide +kernel) (by simp) ?_
            refine AllReadyH.cons rfl (fun K hK => ?_) AllReadyH.nil
            (try simp only [jA, jB, jC])
            go_simp
            refine hK.out _ _ ?_ (fun hHeld => ?_)
            focus ((try dsimp only); exact hC.win (.tail _ (.tail _ (.head _))); done)
            clear hK K
            (try simp only [Act.put, jA, jB, jC, jD, jE, jF])
            refine wpAnyH_done (by decide +kernel) ?_ _
            go_wp2_with fail
            go_meet
            exact ⟨_, _, rfl, rfl, hC.1, (hC.2.1 _ (.tail _ (.head _))).1, (hC.2.1 _ (.head _)).1⟩
          · have h5 := h4.new #[.int .i64 0, .int .i64 0] 24
            (try simp only [jA, jB, jC])
            go_simp
            refine hK.out _ _ ?_ (fun hHeld => ?_)
            focus ((try dsimp only); exact h5.win (.tail _ (.tail _ (.head _))); done)
            clear hK K
            (try simp only [Act.put, jA, jB, jC, jD, jE, jF])
            generalize (World.alloc _ _) = W5 at h5 hHeld ⊢
            generalize W4.heap.size = g6 at h5 ⊢
            refine wpAnyH_ready (rs := [5]) (by decide +kernel) (by simp) ?_
            refine AllReadyH.cons rfl (fun K hK => ?_) AllReadyH.nil
            (try simp only [jA, jB, jC])
            go_simp
            go_at_call 24
            refine (HF2.out _).mono ?_
            rintro e' W6 ⟨rfl, hB5⟩
            have h6 := h5.on hB5
            refine hK.out _ _ ?_ (fun hHeld => ?_)
            focus ((try dsimp only); exact h6.win (.tail _ (.tail _ (.head _))); done)
            clear hK K
            (try simp only [Act.put, jA, jB, jC, jD, jE, jF])
            obtain ⟨_, _⟩ := h6.pt (.tail _ (.head _))
            obtain ⟨_, _⟩ := h6.fz (.tail _ (.head _))
            have hA := h6.swap2 (.int .i64 x.1) (.int .i64 x.2)
            refine wpAnyH_ready (rs := [8]) (by decide +kernel) (by simp) ?_
            refine AllReadyH.cons rfl (fun K hK => ?_) AllReadyH.nil
            (try simp only [jA, jB, jC])
            go_simp
            refine hK.out _ _ ?_ (fun hHeld => ?_)
            focus ((try dsimp only); exact hA.win (.tail _ (.tail _ (.head _))); done)
            clear hK K
            (try simp only [Act.put, jA, jB, jC, jD, jE, jF])
            generalize (World.setCell _ _ _) = WA at hA hHeld ⊢
            obtain ⟨_, _⟩ := hA.pt (.head _)
            obtain ⟨_, _⟩ := hA.fz (.head _)
            have hC := hA.set2 (.int .i64 z.1) (.int .i64 z.2)
            refine wpAnyH_ready (rs := [9]) (by decide +kernel) (by simp) ?_
            refine AllReadyH.cons rfl (fun K hK => ?_) AllReadyH.nil
            (try simp only [jA, jB, jC])
            go_simp
            refine hK.out _ _ ?_ (fun hHeld => ?_)
            focus ((try dsimp only); exact hC.win (.tail _ (.tail _ (.head _))); done)
            clear hK K
            (try simp only [Act.put, jA, jB, jC, jD, jE, jF])
            refine wpAnyH_done (by decide +kernel) ?_ _
            go_wp2_with fail
            go_meet
            exact ⟨_, _, rfl, rfl, hC.1, (hC.2.1 _ (.tail _ (.head _))).1, (hC.2.1 _ (.head _)).1⟩
        · have h4 := h3.new #[.int .i64 0, .int .i64 0] 24
          (try simp only [jA, jB, jC])
          go_simp
          refine hK.out _ _ ?_ (fun hHeld => ?_)
          focus ((try dsimp only); exact h4.win (.tail _ (.tail _ (.head _))); done)
          clear hK K
          (try simp only [Act.put, jA, jB, jC, jD, jE, jF])
          generalize (World.alloc _ _) = W4 at h4 hHeld ⊢
          generalize W3.heap.size = g6 at h4 ⊢
          refine wpAnyH_ready (rs := [2]) (by decide +kernel) (by simp) ?_
          refine AllReadyH.cons rfl (fun K hK => ?_) AllReadyH.nil
          (try simp only [jA, jB, jC])
          go_simp
          go_at_call 24
          refine (HF1.out _).mono ?_
          rintro e' W5 ⟨rfl, hB4⟩
          have h5 := h4.on hB4
          refine hK.out _ _ ?_ (fun hHeld => ?_)
          focus ((try dsimp only); exact h5.win (.tail _ (.tail _ (.head _))); done)
          clear hK K
          (try simp only [Act.put, jA, jB, jC, jD, jE, jF])
          refine wpAnyH_ready (rs := [5]) (by decide +kernel) (by simp) ?_
          refine AllReadyH.cons rfl (fun K hK => ?_) AllReadyH.nil
          (try simp only [jA, jB, jC])
          go_simp
          go_at_call 24
          refine (HF2.out _).mono ?_
          rintro e' W6 ⟨rfl, hB5⟩
          have h6 := h5.on hB5
          refine hK.out _ _ ?_ (fun hHeld => ?_)
          focus ((try dsimp only); exact h6.win (.tail _ (.tail _ (.head _))); done)
          clear hK K
          (try simp only [Act.put, jA, jB, jC, jD, jE, jF])
          obtain ⟨_, _⟩ := h6.pt (.tail _ (.head _))
          obtain ⟨_, _⟩ := h6.fz (.tail _ (.head _))
          have hA := h6.swap2 (.int .i64 x.1) (.int .i64 x.2)
          refine wpAnyH_ready (rs := [8]) (by decide +kernel) (by simp) ?_
          refine AllReadyH.cons rfl (fun K hK => ?_) AllReadyH.nil
          (try simp only [jA, jB, jC])
          go_simp
          refine hK.out _ _ ?_ (fun hHeld => ?_)
          focus ((try dsimp only); exact hA.win (.tail _ (.tail _ (.head _))); done)
          clear hK K
          (try simp only [Act.put, jA, jB, jC, jD, jE, jF])
          generalize (World.setCell _ _ _) = WA at hA hHeld ⊢
          obtain ⟨_, _⟩ := hA.pt (.head _)
          obtain ⟨_, _⟩ := hA.fz (.head _)
          have hC := hA.set2 (.int .i64 z.1) (.int .i64 z.2)
          refine wpAnyH_ready (rs := [9]) (by decide +kernel) (by simp) ?_
          refine AllReadyH.cons rfl (fun K hK => ?_) AllReadyH.nil
          (try simp only [jA, jB, jC])
          go_simp
          refine hK.out _ _ ?_ (fun hHeld => ?_)
          focus ((try dsimp only); exact hC.win (.tail _ (.tail _ (.head _))); done)
          clear hK K
          (try simp only [Act.put, jA, jB, jC, jD, jE, jF])
          refine wpAnyH_done (by decide +kernel) ?_ _
          go_wp2_with fail
          go_meet
          exact ⟨_, _, rfl, rfl, hC.1, (hC.2.1 _ (.tail _ (.head _))).1, (hC.2.1 _ (.head _)).1⟩
      · have h3 := h2.new #[.int .i64 0, .int .i64 0] 24
        (try simp only [jA, jB, jC])
        go_simp
        refine hK.out _ _ ?_ (fun hHeld => ?_)
        focus ((try dsimp only); exact h3.win (.tail _ (.head _)); done)
        clear hK K
        (try simp only [Act.put, jA, jB, jC, jD, jE, jF])
        generalize (World.alloc _ _) = W3 at h3 hHeld ⊢
        generalize W2.heap.size = g6 at h3 ⊢
        refine wpAnyH_ready (rs := [2, 6]) (by decide +kernel) (by simp) ?_
        refine AllReadyH.cons rfl (fun K hK => ?_) (AllReadyH.cons rfl (fun K hK => ?_) AllReadyH.nil)
        · (try simp only [jA, jB, jC])
          go_simp
          go_at_call 24
          refine (HF1.out _).mono ?_
          rintro e' W4 ⟨rfl, hB3⟩
          have h4 := h3.on hB3
          refine hK.out _ _ ?_ (fun hHeld => ?_)
          focus ((try dsimp only); exact h4.win (.tail _ (.head _)); done)
          clear hK K
          (try simp only [Act.put, jA, jB, jC, jD, jE, jF])
          refine wpAnyH_ready (rs := [5, 6]) (by decide +kernel) (by simp) ?_
          refine AllReadyH.cons rfl (fun K hK => ?_) (AllReadyH.cons rfl (fun K hK => ?_) AllReadyH.nil)
          · (try simp only [jA, jB, jC])
            go_simp
            go_at_call 24
            refine (HF2.out _).mono ?_
            rintro e' W5 ⟨rfl, hB4⟩
            have h5 := h4.on hB4
            refine hK.out _ _ ?_ (fun hHeld => ?_)
            focus ((try dsimp only); exact h5.win (.tail _ (.head _)); done)
            clear hK K
            (try simp only [Act.put, jA, jB, jC, jD, jE, jF])
            refine wpAnyH_ready (rs := [6]) (by decide +kernel) (by simp) ?_
            refine AllReadyH.cons rfl (fun K hK => ?_) AllReadyH.nil
            have h6 := h5.new #[.int .i64 0, .int .i64 0] 24
            (try simp only [jA, jB, jC])
            go_simp
            refine hK.out _ _ ?_ (fun hHeld => ?_)
            focus ((try dsimp only); exact h6.win (.tail _ (.tail _ (.head _))); done)
            clear hK K
            (try simp only [Act.put, jA, jB, jC, jD, jE, jF])
            generalize (World.alloc _ _) = W6 at h6 hHeld ⊢
            generalize W5.heap.size = g5 at h6 ⊢
            obtain ⟨_, _⟩ := h6.pt (.head _)
            obtain ⟨_, _⟩ := h6.fz (.head _)
            have hA := h6.set2 (.int .i64 x.1) (.int .i64 x.2)
            refine wpAnyH_ready (rs := [8]) (by decide +kernel) (by simp) ?_
            refine AllReadyH.cons rfl (fun K hK => ?_) AllReadyH.nil
            (try simp only [jA, jB, jC])
            go_simp
            refine hK.out _ _ ?_ (fun hHeld => ?_)
            focus ((try dsimp only); exact hA.win (.tail _ (.tail _ (.head _))); done)
            clear hK K
            (try simp only [Act.put, jA, jB, jC, jD, jE, jF])
            generalize (World.setCell _ _ _) = WA at hA hHeld ⊢
            obtain ⟨_, _⟩ := hA.pt (.tail _ (.head _))
            obtain ⟨_, _⟩ := hA.fz (.tail _ (.head _))
            have hC := hA.swap2 (.int .i64 z.1) (.int .i64 z.2)
            refine wpAnyH_ready (rs := [9]) (by decide +kernel) (by simp) ?_
            refine AllReadyH.cons rfl (fun K hK => ?_) AllReadyH.nil
            (try simp only [jA, jB, jC])
            go_simp
            refine hK.out _ _ ?_ (fun hHeld => ?_)
            focus ((try dsimp only); exact hC.win (.tail _ (.tail _ (.head _))); done)
            clear hK K
            (try simp only [Act.put, jA, jB, jC, jD, jE, jF])
            refine wpAnyH_done (by decide +kernel) ?_ _
            go_wp2_with fail
            go_meet
            exact ⟨_, _, rfl, rfl, hC.1, (hC.2.1 _ (.head _)).1, (hC.2.1 _ (.tail _ (.head _))).1⟩
          · have h5 := h4.new #[.int .i64 0, .int .i64 0] 24
            (try simp only [jA, jB, jC])
            go_simp
            refine hK.out _ _ ?_ (fun hHeld => ?_)
            focus ((try dsimp only); exact h5.win (.tail _ (.tail _ (.head _))); done)
            clear hK K
            (try simp only [Act.put, jA, jB, jC, jD, jE, jF])
            generalize (World.alloc _ _) = W5 at h5 hHeld ⊢
            generalize W4.heap.size = g5 at h5 ⊢
            refine wpAnyH_ready (rs := [5]) (by decide +kernel) (by simp) ?_
            refine AllReadyH.cons rfl (fun K hK => ?_) AllReadyH.nil
            (try simp only [jA, jB, jC])
            go_simp
            go_at_call 24
            refine (HF2.out _).mono ?_
            rintro e' W6 ⟨rfl, hB5⟩
            have h6 := h5.on hB5
            refine hK.out _ _ ?_ (fun hHeld => ?_)
            focus ((try dsimp only); exact h6.win (.tail _ (.tail _ (.head _))); done)
            clear hK K
            (try simp only [Act.put, jA, jB, jC, jD, jE, jF])
            obtain ⟨_, _⟩ := h6.pt (.head _)
            obtain ⟨_, _⟩ := h6.fz (.head _)
            have hA := h6.set2 (.int .i64 x.1) (.int .i64 x.2)
            refine wpAnyH_ready (rs := [8]) (by decide +kernel) (by simp) ?_
            refine AllReadyH.cons rfl (fun K hK => ?_) AllReadyH.nil
            (try simp only [jA, jB, jC])
            go_simp
            refine hK.out _ _ ?_ (fun hHeld => ?_)
            focus ((try dsimp only); exact hA.win (.tail _ (.tail _ (.head _))); done)
            clear hK K
            (try simp only [Act.put, jA, jB, jC, jD, jE, jF])
            generalize (World.setCell _ _ _) = WA at hA hHeld ⊢
            obtain ⟨_, _⟩ := hA.pt (.tail _ (.head _))
            obtain ⟨_, _⟩ := hA.fz (.tail _ (.head _))
            have hC := hA.swap2 (.int .i64 z.1) (.int .i64 z.2)
            refine wpAnyH_ready (rs := [9]) (by decide +kernel) (by simp) ?_
            refine AllReadyH.cons rfl (fun K hK => ?_) AllReadyH.nil
            (try simp only [jA, jB, jC])
            go_simp
            refine hK.out _ _ ?_ (fun hHeld => ?_)
            focus ((try dsimp only); exact hC.win (.tail _ (.tail _ (.head _))); done)
            clear hK K
            (try simp only [Act.put, jA, jB, jC, jD, jE, jF])
            refine wpAnyH_done (by decide +kernel) ?_ _
            go_wp2_with fail
            go_meet
            exact ⟨_, _, rfl, rfl, hC.1, (hC.2.1 _ (.head _)).1, (hC.2.1 _ (.tail _ (.head _))).1⟩
        · have h4 := h3.new #[.int .i64 0, .int .i64 0] 24
          (try simp only [jA, jB, jC])
          go_simp
          refine hK.out _ _ ?_ (fun hHeld => ?_)
          focus ((try dsimp only); exact h4.win (.tail _ (.tail _ (.head _))); done)
          clear hK K
          (try simp only [Act.put, jA, jB, jC, jD, jE, jF])
          generalize (World.alloc _ _) = W4 at h4 hHeld ⊢
          generalize W3.heap.size = g5 at h4 ⊢
          refine wpAnyH_ready (rs := [2]) (by decide +kernel) (by simp) ?_
          refine AllReadyH.cons rfl (fun K hK => ?_) AllReadyH.nil
          (try simp only [jA, jB, jC])
          go_simp
          go_at_call 24
          refine (HF1.out _).mono ?_
          rintro e' W5 ⟨rfl, hB4⟩
          have h5 := h4.on hB4
          refine hK.out _ _ ?_ (fun hHeld => ?_)
          focus ((try dsimp only); exact h5.win (.tail _ (.tail _ (.head _))); done)
          clear hK K
          (try simp only [Act.put, jA, jB, jC, jD, jE, jF])
          refine wpAnyH_ready (rs := [5]) (by decide +kernel) (by simp) ?_
          refine AllReadyH.cons rfl (fun K hK => ?_) AllReadyH.nil
          (try simp only [jA, jB, jC])
          go_simp
          go_at_call 24
          refine (HF2.out _).mono ?_
          rintro e' W6 ⟨rfl, hB5⟩
          have h6 := h5.on hB5
          refine hK.out _ _ ?_ (fun hHeld => ?_)
          focus ((try dsimp only); exact h6.win (.tail _ (.tail _ (.head _))); done)
          clear hK K
          (try simp only [Act.put, jA, jB, jC, jD, jE, jF])
          obtain ⟨_, _⟩ := h6.pt (.head _)
          obtain ⟨_, _⟩ := h6.fz (.head _)
          have hA := h6.set2 (.int .i64 x.1) (.int .i64 x.2)
          refine wpAnyH_ready (rs := [8]) (by decide +kernel) (by simp) ?_
          refine AllReadyH.cons rfl (fun K hK => ?_) AllReadyH.nil
          (try simp only [jA, jB, jC])
          go_simp
          refine hK.out _ _ ?_ (fun hHeld => ?_)
          focus ((try dsimp only); exact hA.win (.tail _ (.tail _ (.head _))); done)
          clear hK K
          (try simp only [Act.put, jA, jB, jC, jD, jE, jF])
          generalize (World.setCell _ _ _) = WA at hA hHeld ⊢
          obtain ⟨_, _⟩ := hA.pt (.tail _ (.head _))
          obtain ⟨_, _⟩ := hA.fz (.tail _ (.head _))
          have hC := hA.swap2 (.int .i64 z.1) (.int .i64 z.2)
          refine wpAnyH_ready (rs := [9]) (by decide +kernel) (by simp) ?_
          refine AllReadyH.cons rfl (fun K hK => ?_) AllReadyH.nil
          (try simp only [jA, jB, jC])
          go_simp
          refine hK.out _ _ ?_ (fun hHeld => ?_)
          focus ((try dsimp only); exact hC.win (.tail _ (.tail _ (.head _))); done)
          clear hK K
          (try simp only [Act.put, jA, jB, jC, jD, jE, jF])
          refine wpAnyH_done (by decide +kernel) ?_ _
          go_wp2_with fail
          go_meet
          exact ⟨_, _, rfl, rfl, hC.1, (hC.2.1 _ (.head _)).1, (hC.2.1 _ (.tail _ (.head _))).1⟩
  case rest =>
    clear HQ1 HF1 HF2 HCK
    obtain ⟨g5, g6, rfl, rfl, hB, hc5, hc6⟩ := hcut
    have HB0 := Lib.hid hB
    have HC5 := Lib.hid (fun W (h : Below wc.heap.size wc W) => box_at hc5 h)
    have HC6 := Lib.hid (fun W (h : Below wc.heap.size wc W) => box_at hc6 h)
    clear hB hc5 hc6
    obtain ⟨x1, x2⟩ := x
    obtain ⟨z1, z2⟩ := z
    dsimp only at *
    obtain ⟨c0, -⟩ := HC5.out _ (Below.refl _ wc)
    have HR0 : RowI wc 24 2 encP (.slice none 0 0) [] wc := RowI.nil (Below.refl _ _)
    go_wp2_with fail
    go_loopg [7, 8] n (fun gg v s8 wr => ∃ i : Nat, i ≤ n ∧ gg = n - i ∧ s8 = .int .i64 (x1 + (i : Int)) ∧ RowI wc 24 2 encP v (spP x1 i x2 m) wr)
    case atStart => exact ⟨0, Nat.zero_le _, rfl, by simp, HR0⟩
    case round =>
      clear HR0 c0
      obtain ⟨i, hi, hgk, rfl, HV⟩ := hrel
      have HGK := Lib.hid hgk
      clear hgk
      obtain ⟨d0, d1⟩ := HC6.out _ HV.1
      obtain ⟨k0, k1⟩ := HC5.out _ HV.1
      have hn1 := HN1.out
      have hn2 := HN2.out
      have hb1 := HB1.out
      have hb2 := HB2.out
      have hb3 := HB3.out
      have hb4 := HB4.out
      by_cases hlt : i < n
      · have b0 : -4 ≤ x1 + (i : Int) := by omega
        have b1 : x1 + (i : Int) ≤ 4 := by omega
        have b2 : x1 + (i : Int) ≤ z1 := by omega
        have hm9 : m ≤ 9 := by omega
        have HLN : Hid ((spP x1 i x2 m).length ≤ 81) := by
          unfold Hid
          rw [spP_len]
          have hi9 : i ≤ 9 := by omega
          exact Nat.le_trans (Nat.mul_le_mul hi9 hm9) (by decide)
        have HT := Lib.hid (spP_succ x1 i x2 m)
        have HX1 : Hid (x1 + (i : Int) + 1 = x1 + ((i + 1 : Nat) : Int)) := by unfold Hid; omega
        generalize spP x1 i x2 m = es at *
        generalize hxi : x1 + (i : Int) = xi at *
        have HXI := Lib.hid hxi
        clear hxi hn1 hb1 hb3
        go_wp2_with fail
        go_loopg [7, 9] m (fun gg v s9 wr => ∃ j : Nat, j ≤ m ∧ gg = m - j ∧ s9 = .int .i64 (x2 + (j : Int)) ∧ RowI wc 24 2 encP v (es ++ yrow xi x2 j) wr)
        case atStart => exact ⟨0, Nat.zero_le _, rfl, by simp, by rw [yrow_zero, List.append_nil]; exact HV⟩
        case round =>
          clear HV d0 d1 k0 k1
          obtain ⟨j, hj, hgk, rfl, HV⟩ := hrel
          have HGJ := Lib.hid hgk
          clear hgk
          obtain ⟨d0, d1⟩ := HC6.out _ HV.1
          by_cases hjt : j < m
          · have a0 : -4 ≤ x2 + (j : Int) := by omega
            have a1 : x2 + (j : Int) ≤ 4 := by omega
            have a2 : x2 + (j : Int) ≤ z2 := by omega
            have HLJ : Hid ((es ++ yrow xi x2 j).length ≤ 1000) := by
              unfold Hid
              rw [List.length_append, yrow_len]
              have := HLN.out
              omega
            have HTJ : Hid (es ++ yrow xi x2 (j + 1) = (es ++ yrow xi x2 j) ++ [(xi, x2 + (j : Int))]) := by
              unfold Hid
              rw [yrow_succ, List.append_assoc]
            have HY1 : Hid (x2 + (j : Int) + 1 = x2 + ((j + 1 : Nat) : Int)) := by unfold Hid; omega
            generalize es ++ yrow xi x2 j = fs at *
            generalize hyj : x2 + (j : Int) = yj at *
            clear hyj hn2 hb2 hb4 hm9
            go_wp2_with (at_builtin; refine append_item kindC Try.underlying35 HV (xi, yj) 24 rfl (by have := HLJ.out; unfold maxLen; omega) (by have := HLJ.out; omega) rfl _ _ rfl rfl _ rfl ?_; rintro v9 w9 HR9)
            go_roundg (m - (j + 1))
            case measure => have := HGJ.out; omega
            case rel => exact ⟨j + 1, by omega, rfl, by rw [← HY1.out], by rw [HTJ.out]; exact HR9⟩
          · obtain rfl : j = m := by omega
            have a3 : ¬ x2 + (j : Int) ≤ z2 := by omega
            rw [← HT.out] at HV
            clear hn2
            go_wp2_with fail
            go_roundg (n - (i + 1))
            case measure => have := HGK.out; omega
            case rel => exact ⟨i + 1, by omega, rfl, by rw [← HX1.out], HV⟩
      · obtain rfl : i = n := by omega
        have a3 : ¬ x1 + (i : Int) ≤ z1 := by omega
        have HV' := Lib.hid HV
        clear HV hn1 hn2 d1 k0 k1
        go_wp2
        refine bodyPost_ret (v := .tuple #[_, .int .i64 0]) ?_ rfl ⟨_, rfl, by rw [HSP.out]; exact RowI.based HV'.out HB0.out⟩
        simp [results, Try.results13, go_sem]
theorem span_any (L H : Int × Int) (w : World) :
    Calls Try.prog 13 #[.agg #[.int .i64 L.1, .int .i64 L.2, .int .i64 H.1, .int .i64 H.2]] w fun e w' => ∃ v, e = .returned (.tuple #[v, .int .i64 (wnE L H)]) ∧ RowI w 24 2 encP v (spanL L H) w' := by
  by_cases he : wnE L H = 0
  · rw [spanL_good he, he]
    exact span_good L H he w
  · rw [spanL_bad he]
    exact (span_bad L H he w).mono fun e w' ⟨h1, h2⟩ => ⟨_, h1, RowI.nil h2⟩
end Go.Proofs.Ytfihddpidaidiaa
