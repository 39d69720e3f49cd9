/- The cell in which a point lies, by the program and by the document. -/
import Derived.Test.YtjlnjjmomohpaaaGreatSide
import Derived.Test.YtjlnjjmomohpaaaGreatRefWin
import Derived.Test.YtjlnjjmomohpaaaGreatGridP
import Derived.BigQuiet
namespace Go.Proofs.YtjlnjjmomohpaaaGreat
open Go.RowKit
theorem Hold.lo2 {w W : World} {g0 g1 : Nat} {x0 y0 x1 y1 : Value} {t0 t1 : TypeId} (h : Hold w [(g1, #[x1, y1], t1), (g0, #[x0, y0], t0)] W) : W.cell? ⟨g0, 0, none⟩ = some x0 ∧ W.cell? ⟨g0, 1, none⟩ = some y0 := ⟨h.rd2.1, h.rd2.2.1⟩
set_option maxRecDepth 100000 in
set_option maxHeartbeats 1000000 in
theorem cutDown_any (n : Int) (h : -1073741824 ≤ n ∧ n ≤ 1073741824) (w : World) :
  Calls Tryz.prog 173 #[.int .i64 n] w fun e w' => e = .returned (.int .i64 (cdv n)) ∧ w' = w := by
 obtain ⟨q, r, h1, h2, ⟨h3, h4⟩, ⟨h5, h6⟩, hc⟩ := cut_facts h
 have h7 : IntKind.i64.wrap q = q := IntWalk.i64_in _ (by omega)
 have h8 : IntKind.i64.wrap r = r := IntWalk.i64_in _ (by omega)
 rcases hc with ⟨k0, k1, k2⟩ | ⟨k0, k1, k2⟩ | ⟨k0, k1, k2⟩
 ·have HE := Lib.hid k2
  clear k2 h
  go_enter Tryz.func173, Tryz.ntmps173
  go_wp2
  go_ret
  rw [HE.out]
  exact ⟨rfl, rfl⟩
 ·have HE := Lib.hid k2
  clear k2 h
  subst k1
  go_enter Tryz.func173, Tryz.ntmps173
  go_wp2
  go_ret
  rw [HE.out]
  exact ⟨rfl, rfl⟩
 ·have HE := Lib.hid k2
  clear k2 h
  go_enter Tryz.func173, Tryz.ntmps173
  go_wp2
  go_ret
  rw [HE.out]
  exact ⟨rfl, rfl⟩
set_option maxRecDepth 100000 in
set_option maxHeartbeats 2000000 in
theorem cellOf_any (p : Int × Int) (h : gd p = true) (w : World) :
  Calls Tryz.prog 140 #[.agg #[.int .i64 p.1, .int .i64 p.2]] w fun e w' => e = .returned (.agg #[.int .i64 (cdP p).1, .int .i64 (cdP p).2]) ∧ Below w.heap.size w w' := by
 have hg := gd_iff.1 h
 unfold Gd at hg
 have H1 := Lib.hid (fun W => cutDown_any p.1 ⟨hg.1, hg.2.1⟩ W)
 have H2 := Lib.hid (fun W => cutDown_any p.2 hg.2.2 W)
 clear h hg
 have HQ := ((Hold.refl w).new #[.int .i64 p.1, .int .i64 p.2] 56).new' #[.int .i64 0, .int .i64 0] 87 (n := w.heap.size + 1) (by simp)
 go_enter Tryz.func140, Tryz.ntmps140
 go_upto_region 1 with (fail)
 generalize (World.alloc _ _) = W1 at HQ ⊢
 generalize w.heap.size + 1 = g1 at HQ ⊢
 obtain ⟨g0, hg0⟩ : ∃ g, w.heap.size = g := ⟨_, rfl⟩
 rw [hg0] at HQ ⊢
 have HG0 := Lib.hid hg0
 clear hg0
 obtain ⟨f0, f1⟩ := HQ.fz (.head _)
 obtain ⟨d0, d1⟩ := HQ.pt (.head _)
 go_region_held3 (fun W => W.cell? ⟨g0, 0, none⟩ = some (.int .i64 p.1) ∧ W.cell? ⟨g0, 1, none⟩ = some (.int .i64 p.2)) (first | exact Hold.lo2 (by assumption) | exact Hold.lo2 (Hold.drew (by assumption)) | exact Hold.lo2 (Hold.set2 (Hold.drew (by assumption)) _ _)) ((first
  |(go_at_call 173; (with_reducible refine (H1.out _).mono ?_); rintro e w' ⟨rfl, rfl⟩)
  |(go_at_call 173; (with_reducible refine (H2.out _).mono ?_); rintro e w' ⟨rfl, rfl⟩)))
 all_goals
  (try go_wp2_with fail)
  have HE := HQ.set2 (.int .i64 (cdv p.1)) (.int .i64 (cdv p.2))
  have HD := HE.1.drew
  obtain ⟨n0, n1⟩ := HE.pt (.head _)
  refine bodyPost_ret (v := .agg #[.int .i64 (cdP p).1, .int .i64 (cdP p).2]) ?_ rfl ⟨rfl, HD⟩
  simp [results, Tryz.results140, go_sem, n0, n1, cdP]
end Go.Proofs.YtjlnjjmomohpaaaGreat

namespace Go.Proofs.YtjlnjjmomohpaaaGreat
open Go.RowKit

def encP (p : Int × Int) : List Value := [.int .i64 p.1, .int .i64 p.2]
theorem kindC : Kind 87 encP 2 16 := Kind.mk' (z := .agg #[.int .i64 0, .int .i64 0]) (fun _ => rfl) (fun a u hu => by
 simp only [encP, List.mem_cons, List.not_mem_nil, or_false] at hu
 rcases hu with rfl | rfl <;> rfl) (by decide) (by kernel_rfl) rfl
theorem RowI.based {α : Type} {T : TypeId} {enc : α → List Value} {n : Nat} {w w1 W : World} {v : Value} {l : List α} (h : RowI w1 T n enc v l W) (hb : Below w.heap.size w w1) : RowI w T n enc v l W :=
 ⟨Below.trans hb (h.1.mono hb.size), h.2.1, h.2.2.imp id (fun ⟨g, cap, cur, e, hg, r⟩ => ⟨g, cap, cur, e, Nat.le_trans hb.size hg, r⟩)⟩
theorem box_at {W W' : World} {g : Nat} {a b : Value} {t : TypeId} (h : W.heap[g]? = some (.cells #[a, b] t (0, 0))) (hb : Below W.heap.size W W') : W'.cell? ⟨g, 0, none⟩ = some a ∧ W'.cell? ⟨g, 1, none⟩ = some b := by
 have h' := (hb.block _ (blk_lt h)).trans h
 exact ⟨blk_cell h' 0, blk_cell h' 1⟩
theorem two_good {L H : Int × Int} (h : gdL [L, H] = true) : gd L = true ∧ gd H = true := by simpa [gdL] using h
set_option maxRecDepth 100000 in
set_option maxHeartbeats 20000000 in
theorem span_good (L H : Int × Int) (he : wnE L H = 0) (w : World) :
  Calls Tryz.prog 102 #[.agg #[.int .i64 L.1, .int .i64 L.2, .int .i64 H.1, .int .i64 H.2]] w fun e w' => ∃ v, e = .returned (.tuple #[v, .int .i64 0]) ∧ RowI w 87 2 encP v (spL L H) w' := by
 obtain ⟨hg, hl1, hl2⟩ := wnE_zero.1 he
 obtain ⟨hgL, hgH⟩ := two_good hg
 have HCK : Hid (∀ W, Calls Tryz.prog 139 #[.agg #[.int .i64 L.1, .int .i64 L.2, .int .i64 H.1, .int .i64 H.2]] W fun e w' => e = .returned (.int .i64 0) ∧ Below W.heap.size W w') := fun W => by
  have h := wcheck_any L H W
  rw [he] at h
  exact h
 have HF1 := Lib.hid (fun W => cellOf_any L hgL W)
 have HF2 := Lib.hid (fun W => cellOf_any H hgH W)
 have hGL := gd_iff.1 hgL
 have hGH := gd_iff.1 hgH
 have HSP : Hid (spL L H = spP (cdP L).1 (wdN L.1 H.1) (cdP L).2 (wdN L.2 H.2)) := rfl
 have HN1 := Lib.hid (wdN_eq hl1)
 have HN2 := Lib.hid (wdN_eq hl2)
 have HB1 := Lib.hid (cdv_bd (n := L.1) ⟨hGL.1, hGL.2.1⟩)
 have HB2 := Lib.hid (cdv_bd (n := L.2) hGL.2.2)
 have HB3 := Lib.hid (cdv_bd (n := H.1) ⟨hGH.1, hGH.2.1⟩)
 have HB4 := Lib.hid (cdv_bd (n := H.2) hGH.2.2)
 have e1 : (cdP L).1 = cdv L.1 := rfl
 have e2 : (cdP L).2 = cdv L.2 := rfl
 have e3 : (cdP H).1 = cdv H.1 := rfl
 have e4 : (cdP H).2 = cdv H.2 := rfl
 rw [← e1, ← e3] at HN1
 rw [← e2, ← e4] at HN2
 rw [← e1] at HB1
 rw [← e2] at HB2
 rw [← e3] at HB3
 rw [← e4] at HB4
 clear he hg hl1 hl2 hgL hgH hGL hGH e1 e2 e3 e4
 generalize spL L H = sp at *
 generalize cdP L = x at *
 generalize cdP H = z at *
 generalize wdN L.1 H.1 = n at *
 generalize wdN L.2 H.2 = m at *
 have HQ := (Hold.refl w).new #[.int .i64 L.1, .int .i64 L.2, .int .i64 H.1, .int .i64 H.2] 85
 go_enter Tryz.func102, Tryz.ntmps102
 go_upto_region 1 with (fail)
 generalize (World.alloc _ _) = W1 at HQ ⊢
 obtain ⟨g0, hg0⟩ : ∃ g, w.heap.size = g := ⟨_, rfl⟩
 rw [hg0] at HQ ⊢
 have HG0 := Lib.hid hg0
 clear hg0
 obtain ⟨c0, c1, c2, c3⟩ := HQ.win (.head _)
 go_upto_region 4 with (go_at_call 139; go_must ((with_reducible refine (HCK.out _).mono ?_); rintro e w1 ⟨rfl, hB⟩; have HQ1 := HQ.on hB; clear HQ hB c0 c1 c2 c3))
 go_cut [5, 6] (fun s5 s6 wx => ∃ g5 g6, s5 = .pointer (some ⟨g5, 0, none⟩) ∧ s6 = .pointer (some ⟨g6, 0, none⟩) ∧ Below w.heap.size w wx ∧ wx.heap[g5]? = some (.cells #[.int .i64 x.1, .int .i64 x.2] 87 (0, 0)) ∧ wx.heap[g6]? = some (.cells #[.int .i64 z.1, .int .i64 z.2] 87 (0, 0)))
 case first =>
  as_aux_lemma =>
   have h2 := HQ1.drew
   clear HQ1 HSP HN1 HN2 HB1 HB2 HB3 HB4
   refine wp_region_held_drew (S := fun W => W.cell? ⟨g0, 0, none⟩ = some (.int .i64 L.1) ∧ W.cell? ⟨g0, 1, none⟩ = some (.int .i64 L.2) ∧ W.cell? ⟨g0, 2, none⟩ = some (.int .i64 H.1) ∧ W.cell? ⟨g0, 3, none⟩ = some (.int .i64 H.2)) (by kernel_rfl) ?_ (fun hHeld => ?_)
   ·(try dsimp only)
    exact h2.win (.head _)
   refine tZ 0 ?_; refine tZ 1 ?_; refine tZ 3 ?_; refine tZ 4 ?_
   generalize (World.drew _) = W2 at h2 hHeld ⊢
   refine wpAnyH_ready (rs := [2, 6, 7]) (by decide +kernel) (by simp) ?_
   refine AllReadyH.cons rfl (fun K hK => ?_) (AllReadyH.cons rfl (fun K hK => ?_) (AllReadyH.cons rfl (fun K hK => ?_) AllReadyH.nil))
   ·(try simp only [jA, jB, jC])
    go_simp
    go_at_call 140
    refine (HF1.out _).mono ?_
    rintro e' W3 ⟨rfl, hB2⟩
    have h3 := h2.on hB2
    refine hK.out _ _ ?_ (fun hHeld => ?_)
    focus ((try dsimp only); exact h3.win (.head _); done)
    clear hK K
    (try simp only [Act.put, jA, jB, jC, jD, jE, jF])
    refine wpAnyH_ready (rs := [5, 6, 7]) (by decide +kernel) (by simp) ?_
    refine AllReadyH.cons rfl (fun K hK => ?_) (AllReadyH.cons rfl (fun K hK => ?_) (AllReadyH.cons rfl (fun K hK => ?_) AllReadyH.nil))
    ·(try simp only [jA, jB, jC])
     go_simp
     go_at_call 140
     refine (HF2.out _).mono ?_
     rintro e' W4 ⟨rfl, hB3⟩
     have h4 := h3.on hB3
     refine hK.out _ _ ?_ (fun hHeld => ?_)
     focus ((try dsimp only); exact h4.win (.head _); done)
     clear hK K
     (try simp only [Act.put, jA, jB, jC, jD, jE, jF])
     refine wpAnyH_ready (rs := [6, 7]) (by decide +kernel) (by simp) ?_
     refine AllReadyH.cons rfl (fun K hK => ?_) (AllReadyH.cons rfl (fun K hK => ?_) AllReadyH.nil)
     ·have h5 := h4.new #[.int .i64 0, .int .i64 0] 87
      (try simp only [jA, jB, jC])
      go_simp
      refine hK.out _ _ ?_ (fun hHeld => ?_)
      focus ((try dsimp only); exact h5.win (.tail _ (.head _)); done)
      clear hK K
      (try simp only [Act.put, jA, jB, jC, jD, jE, jF])
      generalize (World.alloc _ _) = W5 at h5 hHeld ⊢
      generalize W4.heap.size = g5 at h5 ⊢
      refine wpAnyH_ready (rs := [7]) (by decide +kernel) (by simp) ?_
      refine AllReadyH.cons rfl (fun K hK => ?_) AllReadyH.nil
      have h6 := h5.new #[.int .i64 0, .int .i64 0] 87
      (try simp only [jA, jB, jC])
      go_simp
      refine hK.out _ _ ?_ (fun hHeld => ?_)
      focus ((try dsimp only); exact h6.win (.tail _ (.tail _ (.head _))); done)
      clear hK K
      (try simp only [Act.put, jA, jB, jC, jD, jE, jF])
      generalize (World.alloc _ _) = W6 at h6 hHeld ⊢
      generalize W5.heap.size = g6 at h6 ⊢
      obtain ⟨_, _⟩ := h6.pt (.tail _ (.head _))
      obtain ⟨_, _⟩ := h6.fz (.tail _ (.head _))
      have hA := h6.swap2 (.int .i64 x.1) (.int .i64 x.2)
      refine wpAnyH_ready (rs := [8]) (by decide +kernel) (by simp) ?_
      refine AllReadyH.cons rfl (fun K hK => ?_) AllReadyH.nil
      (try simp only [jA, jB, jC])
      go_simp
      refine hK.out _ _ ?_ (fun hHeld => ?_)
      focus ((try dsimp only); exact hA.win (.tail _ (.tail _ (.head _))); done)
      clear hK K
      (try simp only [Act.put, jA, jB, jC, jD, jE, jF])
      generalize (World.setCell _ _ _) = WA at hA hHeld ⊢
      obtain ⟨_, _⟩ := hA.pt (.head _)
      obtain ⟨_, _⟩ := hA.fz (.head _)
      have hC := hA.set2 (.int .i64 z.1) (.int .i64 z.2)
      refine wpAnyH_ready (rs := [9]) (by decide +kernel) (by simp) ?_
      refine AllReadyH.cons rfl (fun K hK => ?_) AllReadyH.nil
      (try simp only [jA, jB, jC])
      go_simp
      refine hK.out _ _ ?_ (fun hHeld => ?_)
      focus ((try dsimp only); exact hC.win (.tail _ (.tail _ (.head _))); done)
      clear hK K
      (try simp only [Act.put, jA, jB, jC, jD, jE, jF])
      refine wpAnyH_done (by decide +kernel) ?_ _
      go_wp2_with fail
      go_meet
      exact ⟨_, _, rfl, rfl, hC.1, (hC.2.1 _ (.tail _ (.head _))).1, (hC.2.1 _ (.head _)).1⟩
     ·have h5 := h4.new #[.int .i64 0, .int .i64 0] 87
      (try simp only [jA, jB, jC])
      go_simp
      refine hK.out _ _ ?_ (fun hHeld => ?_)
      focus ((try dsimp only); exact h5.win (.tail _ (.head _)); done)
      clear hK K
      (try simp only [Act.put, jA, jB, jC, jD, jE, jF])
      generalize (World.alloc _ _) = W5 at h5 hHeld ⊢
      generalize W4.heap.size = g6 at h5 ⊢
      refine wpAnyH_ready (rs := [6]) (by decide +kernel) (by simp) ?_
      refine AllReadyH.cons rfl (fun K hK => ?_) AllReadyH.nil
      have h6 := h5.new #[.int .i64 0, .int .i64 0] 87
      (try simp only [jA, jB, jC])
      go_simp
      refine hK.out _ _ ?_ (fun hHeld => ?_)
      focus ((try dsimp only); exact h6.win (.tail _ (.tail _ (.head _))); done)
      clear hK K
      (try simp only [Act.put, jA, jB, jC, jD, jE, jF])
      generalize (World.alloc _ _) = W6 at h6 hHeld ⊢
      generalize W5.heap.size = g5 at h6 ⊢
      obtain ⟨_, _⟩ := h6.pt (.head _)
      obtain ⟨_, _⟩ := h6.fz (.head _)
      have hA := h6.set2 (.int .i64 x.1) (.int .i64 x.2)
      refine wpAnyH_ready (rs := [8]) (by decide +kernel) (by simp) ?_
      refine AllReadyH.cons rfl (fun K hK => ?_) AllReadyH.nil
      (try simp only [jA, jB, jC])
      go_simp
      refine hK.out _ _ ?_ (fun hHeld => ?_)
      focus ((try dsimp only); exact hA.win (.tail _ (.tail _ (.head _))); done)
      clear hK K
      (try simp only [Act.put, jA, jB, jC, jD, jE, jF])
      generalize (World.setCell _ _ _) = WA at hA hHeld ⊢
      obtain ⟨_, _⟩ := hA.pt (.tail _ (.head _))
      obtain ⟨_, _⟩ := hA.fz (.tail _ (.head _))
      have hC := hA.swap2 (.int .i64 z.1) (.int .i64 z.2)
      refine wpAnyH_ready (rs := [9]) (by decide +kernel) (by simp) ?_
      refine AllReadyH.cons rfl (fun K hK => ?_) AllReadyH.nil
      (try simp only [jA, jB, jC])
      go_simp
      refine hK.out _ _ ?_ (fun hHeld => ?_)
      focus ((try dsimp only); exact hC.win (.tail _ (.tail _ (.head _))); done)
      clear hK K
      (try simp only [Act.put, jA, jB, jC, jD, jE, jF])
      refine wpAnyH_done (by decide +kernel) ?_ _
      go_wp2_with fail
      go_meet
      exact ⟨_, _, rfl, rfl, hC.1, (hC.2.1 _ (.head _)).1, (hC.2.1 _ (.tail _ (.head _))).1⟩
    ·have h4 := h3.new #[.int .i64 0, .int .i64 0] 87
     (try simp only [jA, jB, jC])
     go_simp
     refine hK.out _ _ ?_ (fun hHeld => ?_)
     focus ((try dsimp only); exact h4.win (.tail _ (.head _)); done)
     clear hK K
     (try simp only [Act.put, jA, jB, jC, jD, jE, jF])
     generalize (World.alloc _ _) = W4 at h4 hHeld ⊢
     generalize W3.heap.size = g5 at h4 ⊢
     refine wpAnyH_ready (rs := [5, 7]) (by decide +kernel) (by simp) ?_
     refine AllReadyH.cons rfl (fun K hK => ?_) (AllReadyH.cons rfl (fun K hK => ?_) AllReadyH.nil)
     ·(try simp only [jA, jB, jC])
      go_simp
      go_at_call 140
      refine (HF2.out _).mono ?_
      rintro e' W5 ⟨rfl, hB4⟩
      have h5 := h4.on hB4
      refine hK.out _ _ ?_ (fun hHeld => ?_)
      focus ((try dsimp only); exact h5.win (.tail _ (.head _)); done)
      clear hK K
      (try simp only [Act.put, jA, jB, jC, jD, jE, jF])
      refine wpAnyH_ready (rs := [7]) (by decide +kernel) (by simp) ?_
      refine AllReadyH.cons rfl (fun K hK => ?_) AllReadyH.nil
      have h6 := h5.new #[.int .i64 0, .int .i64 0] 87
      (try simp only [jA, jB, jC])
      go_simp
      refine hK.out _ _ ?_ (fun hHeld => ?_)
      focus ((try dsimp only); exact h6.win (.tail _ (.tail _ (.head _))); done)
      clear hK K
      (try simp only [Act.put, jA, jB, jC, jD, jE, jF])
      generalize (World.alloc _ _) = W6 at h6 hHeld ⊢
      generalize W5.heap.size = g6 at h6 ⊢
      obtain ⟨_, _⟩ := h6.pt (.tail _ (.head _))
      obtain ⟨_, _⟩ := h6.fz (.tail _ (.head _))
      have hA := h6.swap2 (.int .i64 x.1) (.int .i64 x.2)
      refine wpAnyH_ready (rs := [8]) (by decide +kernel) (by simp) ?_
      refine AllReadyH.cons rfl (fun K hK => ?_) AllReadyH.nil
      (try simp only [jA, jB, jC])
      go_simp
      refine hK.out _ _ ?_ (fun hHeld => ?_)
      focus ((try dsimp only); exact hA.win (.tail _ (.tail _ (.head _))); done)
      clear hK K
      (try simp only [Act.put, jA, jB, jC, jD, jE, jF])
      generalize (World.setCell _ _ _) = WA at hA hHeld ⊢
      obtain ⟨_, _⟩ := hA.pt (.head _)
      obtain ⟨_, _⟩ := hA.fz (.head _)
      have hC := hA.set2 (.int .i64 z.1) (.int .i64 z.2)
      refine wpAnyH_ready (rs := [9]) (by decide +kernel) (by simp) ?_
      refine AllReadyH.cons rfl (fun K hK => ?_) AllReadyH.nil
      (try simp only [jA, jB, jC])
      go_simp
      refine hK.out _ _ ?_ (fun hHeld => ?_)
      focus ((try dsimp only); exact hC.win (.tail _ (.tail _ (.head _))); done)
      clear hK K
      (try simp only [Act.put, jA, jB, jC, jD, jE, jF])
      refine wpAnyH_done (by decide +kernel) ?_ _
      go_wp2_with fail
      go_meet
      exact ⟨_, _, rfl, rfl, hC.1, (hC.2.1 _ (.tail _ (.head _))).1, (hC.2.1 _ (.head _)).1⟩
     ·have h5 := h4.new #[.int .i64 0, .int .i64 0] 87
      (try simp only [jA, jB, jC])
      go_simp
      refine hK.out _ _ ?_ (fun hHeld => ?_)
      focus ((try dsimp only); exact h5.win (.tail _ (.tail _ (.head _))); done)
      clear hK K
      (try simp only [Act.put, jA, jB, jC, jD, jE, jF])
      generalize (World.alloc _ _) = W5 at h5 hHeld ⊢
      generalize W4.heap.size = g6 at h5 ⊢
      refine wpAnyH_ready (rs := [5]) (by decide +kernel) (by simp) ?_
      refine AllReadyH.cons rfl (fun K hK => ?_) AllReadyH.nil
      (try simp only [jA, jB, jC])
      go_simp
      go_at_call 140
      refine (HF2.out _).mono ?_
      rintro e' W6 ⟨rfl, hB5⟩
      have h6 := h5.on hB5
      refine hK.out _ _ ?_ (fun hHeld => ?_)
      focus ((try dsimp only); exact h6.win (.tail _ (.tail _ (.head _))); done)
      clear hK K
      (try simp only [Act.put, jA, jB, jC, jD, jE, jF])
      obtain ⟨_, _⟩ := h6.pt (.tail _ (.head _))
      obtain ⟨_, _⟩ := h6.fz (.tail _ (.head _))
      have hA := h6.swap2 (.int .i64 x.1) (.int .i64 x.2)
      refine wpAnyH_ready (rs := [8]) (by decide +kernel) (by simp) ?_
      refine AllReadyH.cons rfl (fun K hK => ?_) AllReadyH.nil
      (try simp only [jA, jB, jC])
      go_simp
      refine hK.out _ _ ?_ (fun hHeld => ?_)
      focus ((try dsimp only); exact hA.win (.tail _ (.tail _ (.head _))); done)
      clear hK K
      (try simp only [Act.put, jA, jB, jC, jD, jE, jF])
      generalize (World.setCell _ _ _) = WA at hA hHeld ⊢
      obtain ⟨_, _⟩ := hA.pt (.head _)
      obtain ⟨_, _⟩ := hA.fz (.head _)
      have hC := hA.set2 (.int .i64 z.1) (.int .i64 z.2)
      refine wpAnyH_ready (rs := [9]) (by decide +kernel) (by simp) ?_
      refine AllReadyH.cons rfl (fun K hK => ?_) AllReadyH.nil
      (try simp only [jA, jB, jC])
      go_simp
      refine hK.out _ _ ?_ (fun hHeld => ?_)
      focus ((try dsimp only); exact hC.win (.tail _ (.tail _ (.head _))); done)
      clear hK K
      (try simp only [Act.put, jA, jB, jC, jD, jE, jF])
      refine wpAnyH_done (by decide +kernel) ?_ _
      go_wp2_with fail
      go_meet
      exact ⟨_, _, rfl, rfl, hC.1, (hC.2.1 _ (.tail _ (.head _))).1, (hC.2.1 _ (.head _)).1⟩
    ·have h4 := h3.new #[.int .i64 0, .int .i64 0] 87
     (try simp only [jA, jB, jC])
     go_simp
     refine hK.out _ _ ?_ (fun hHeld => ?_)
     focus ((try dsimp only); exact h4.win (.tail _ (.head _)); done)
     clear hK K
     (try simp only [Act.put, jA, jB, jC, jD, jE, jF])
     generalize (World.alloc _ _) = W4 at h4 hHeld ⊢
     generalize W3.heap.size = g6 at h4 ⊢
     refine wpAnyH_ready (rs := [5, 6]) (by decide +kernel) (by simp) ?_
     refine AllReadyH.cons rfl (fun K hK => ?_) (AllReadyH.cons rfl (fun K hK => ?_) AllReadyH.nil)
     ·(try simp only [jA, jB, jC])
      go_simp
      go_at_call 140
      refine (HF2.out _).mono ?_
      rintro e' W5 ⟨rfl, hB4⟩
      have h5 := h4.on hB4
      refine hK.out _ _ ?_ (fun hHeld => ?_)
      focus ((try dsimp only); exact h5.win (.tail _ (.head _)); done)
      clear hK K
      (try simp only [Act.put, jA, jB, jC, jD, jE, jF])
      refine wpAnyH_ready (rs := [6]) (by decide +kernel) (by simp) ?_
      refine AllReadyH.cons rfl (fun K hK => ?_) AllReadyH.nil
      have h6 := h5.new #[.int .i64 0, .int .i64 0] 87
      (try simp only [jA, jB, jC])
      go_simp
      refine hK.out _ _ ?_ (fun hHeld => ?_)
      focus ((try dsimp only); exact h6.win (.tail _ (.tail _ (.head _))); done)
      clear hK K
      (try simp only [Act.put, jA, jB, jC, jD, jE, jF])
      generalize (World.alloc _ _) = W6 at h6 hHeld ⊢
      generalize W5.heap.size = g5 at h6 ⊢
      obtain ⟨_, _⟩ := h6.pt (.head _)
      obtain ⟨_, _⟩ := h6.fz (.head _)
      have hA := h6.set2 (.int .i64 x.1) (.int .i64 x.2)
      refine wpAnyH_ready (rs := [8]) (by decide +kernel) (by simp) ?_
      refine AllReadyH.cons rfl (fun K hK => ?_) AllReadyH.nil
      (try simp only [jA, jB, jC])
      go_simp
      refine hK.out _ _ ?_ (fun hHeld => ?_)
      focus ((try dsimp only); exact hA.win (.tail _ (.tail _ (.head _))); done)
      clear hK K
      (try simp only [Act.put, jA, jB, jC, jD, jE, jF])
      generalize (World.setCell _ _ _) = WA at hA hHeld ⊢
      obtain ⟨_, _⟩ := hA.pt (.tail _ (.head _))
      obtain ⟨_, _⟩ := hA.fz (.tail _ (.head _))
      have hC := hA.swap2 (.int .i64 z.1) (.int .i64 z.2)
      refine wpAnyH_ready (rs := [9]) (by decide +kernel) (by simp) ?_
      refine AllReadyH.cons rfl (fun K hK => ?_) AllReadyH.nil
      (try simp only [jA, jB, jC])
      go_simp
      refine hK.out _ _ ?_ (fun hHeld => ?_)
      focus ((try dsimp only); exact hC.win (.tail _ (.tail _ (.head _))); done)
      clear hK K
      (try simp only [Act.put, jA, jB, jC, jD, jE, jF])
      refine wpAnyH_done (by decide +kernel) ?_ _
      go_wp2_with fail
      go_meet
      exact ⟨_, _, rfl, rfl, hC.1, (hC.2.1 _ (.head _)).1, (hC.2.1 _ (.tail _ (.head _))).1⟩
     ·have h5 := h4.new #[.int .i64 0, .int .i64 0] 87
      (try simp only [jA, jB, jC])
      go_simp
      refine hK.out _ _ ?_ (fun hHeld => ?_)
      focus ((try dsimp only); exact h5.win (.tail _ (.tail _ (.head _))); done)
      clear hK K
      (try simp only [Act.put, jA, jB, jC, jD, jE, jF])
      generalize (World.alloc _ _) = W5 at h5 hHeld ⊢
      generalize W4.heap.size = g5 at h5 ⊢
      refine wpAnyH_ready (rs := [5]) (by decide +kernel) (by simp) ?_
      refine AllReadyH.cons rfl (fun K hK => ?_) AllReadyH.nil
      (try simp only [jA, jB, jC])
      go_simp
      go_at_call 140
      refine (HF2.out _).mono ?_
      rintro e' W6 ⟨rfl, hB5⟩
      have h6 := h5.on hB5
      refine hK.out _ _ ?_ (fun hHeld => ?_)
      focus ((try dsimp only); exact h6.win (.tail _ (.tail _ (.head _))); done)
      clear hK K
      (try simp only [Act.put, jA, jB, jC, jD, jE, jF])
      obtain ⟨_, _⟩ := h6.pt (.head _)
      obtain ⟨_, _⟩ := h6.fz (.head _)
      have hA := h6.set2 (.int .i64 x.1) (.int .i64 x.2)
      refine wpAnyH_ready (rs := [8]) (by decide +kernel) (by simp) ?_
      refine AllReadyH.cons rfl (fun K hK => ?_) AllReadyH.nil
      (try simp only [jA, jB, jC])
      go_simp
      refine hK.out _ _ ?_ (fun hHeld => ?_)
      focus ((try dsimp only); exact hA.win (.tail _ (.tail _ (.head _))); done)
      clear hK K
      (try simp only [Act.put, jA, jB, jC, jD, jE, jF])
      generalize (World.setCell _ _ _) = WA at hA hHeld ⊢
      obtain ⟨_, _⟩ := hA.pt (.tail _ (.head _))
      obtain ⟨_, _⟩ := hA.fz (.tail _ (.head _))
      have hC := hA.swap2 (.int .i64 z.1) (.int .i64 z.2)
      refine wpAnyH_ready (rs := [9]) (by decide +kernel) (by simp) ?_
      refine AllReadyH.cons rfl (fun K hK => ?_) AllReadyH.nil
      (try simp only [jA, jB, jC])
      go_simp
      refine hK.out _ _ ?_ (fun hHeld => ?_)
      focus ((try dsimp only); exact hC.win (.tail _ (.tail _ (.head _))); done)
      clear hK K
      (try simp only [Act.put, jA, jB, jC, jD, jE, jF])
      refine wpAnyH_done (by decide +kernel) ?_ _
      go_wp2_with fail
      go_meet
      exact ⟨_, _, rfl, rfl, hC.1, (hC.2.1 _ (.head _)).1, (hC.2.1 _ (.tail _ (.head _))).1⟩
   ·have h3 := h2.new #[.int .i64 0, .int .i64 0] 87
    (try simp only [jA, jB, jC])
    go_simp
    refine hK.out _ _ ?_ (fun hHeld => ?_)
    focus ((try dsimp only); exact h3.win (.tail _ (.head _)); done)
    clear hK K
    (try simp only [Act.put, jA, jB, jC, jD, jE, jF])
    generalize (World.alloc _ _) = W3 at h3 hHeld ⊢
    generalize W2.heap.size = g5 at h3 ⊢
    refine wpAnyH_ready (rs := [2, 7]) (by decide +kernel) (by simp) ?_
    refine AllReadyH.cons rfl (fun K hK => ?_) (AllReadyH.cons rfl (fun K hK => ?_) AllReadyH.nil)
    ·(try simp only [jA, jB, jC])
     go_simp
     go_at_call 140
     refine (HF1.out _).mono ?_
     rintro e' W4 ⟨rfl, hB3⟩
     have h4 := h3.on hB3
     refine hK.out _ _ ?_ (fun hHeld => ?_)
     focus ((try dsimp only); exact h4.win (.tail _ (.head _)); done)
     clear hK K
     (try simp only [Act.put, jA, jB, jC, jD, jE, jF])
     refine wpAnyH_ready (rs := [5, 7]) (by decide +kernel) (by simp) ?_
     refine AllReadyH.cons rfl (fun K hK => ?_) (AllReadyH.cons rfl (fun K hK => ?_) AllReadyH.nil)
     ·(try simp only [jA, jB, jC])
      go_simp
      go_at_call 140
      refine (HF2.out _).mono ?_
      rintro e' W5 ⟨rfl, hB4⟩
      have h5 := h4.on hB4
      refine hK.out _ _ ?_ (fun hHeld => ?_)
      focus ((try dsimp only); exact h5.win (.tail _ (.head _)); done)
      clear hK K
      (try simp only [Act.put, jA, jB, jC, jD, jE, jF])
      refine wpAnyH_ready (rs := [7]) (by decide +kernel) (by simp) ?_
      refine AllReadyH.cons rfl (fun K hK => ?_) AllReadyH.nil
      have h6 := h5.new #[.int .i64 0, .int .i64 0] 87
      (try simp only [jA, jB, jC])
      go_simp
      refine hK.out _ _ ?_ (fun hHeld => ?_)
      focus ((try dsimp only); exact h6.win (.tail _ (.tail _ (.head _))); done)
      clear hK K
      (try simp only [Act.put, jA, jB, jC, jD, jE, jF])
      generalize (World.alloc _ _) = W6 at h6 hHeld ⊢
      generalize W5.heap.size = g6 at h6 ⊢
      obtain ⟨_, _⟩ := h6.pt (.tail _ (.head _))
      obtain ⟨_, _⟩ := h6.fz (.tail _ (.head _))
      have hA := h6.swap2 (.int .i64 x.1) (.int .i64 x.2)
      refine wpAnyH_ready (rs := [8]) (by decide +kernel) (by simp) ?_
      refine AllReadyH.cons rfl (fun K hK => ?_) AllReadyH.nil
      (try simp only [jA, jB, jC])
      go_simp
      refine hK.out _ _ ?_ (fun hHeld => ?_)
      focus ((try dsimp only); exact hA.win (.tail _ (.tail _ (.head _))); done)
      clear hK K
      (try simp only [Act.put, jA, jB, jC, jD, jE, jF])
      generalize (World.setCell _ _ _) = WA at hA hHeld ⊢
      obtain ⟨_, _⟩ := hA.pt (.head _)
      obtain ⟨_, _⟩ := hA.fz (.head _)
      have hC := hA.set2 (.int .i64 z.1) (.int .i64 z.2)
      refine wpAnyH_ready (rs := [9]) (by decide +kernel) (by simp) ?_
      refine AllReadyH.cons rfl (fun K hK => ?_) AllReadyH.nil
      (try simp only [jA, jB, jC])
      go_simp
      refine hK.out _ _ ?_ (fun hHeld => ?_)
      focus ((try dsimp only); exact hC.win (.tail _ (.tail _ (.head _))); done)
      clear hK K
      (try simp only [Act.put, jA, jB, jC, jD, jE, jF])
      refine wpAnyH_done (by decide +kernel) ?_ _
      go_wp2_with fail
      go_meet
      exact ⟨_, _, rfl, rfl, hC.1, (hC.2.1 _ (.tail _ (.head _))).1, (hC.2.1 _ (.head _)).1⟩
     ·have h5 := h4.new #[.int .i64 0, .int .i64 0] 87
      (try simp only [jA, jB, jC])
      go_simp
      refine hK.out _ _ ?_ (fun hHeld => ?_)
      focus ((try dsimp only); exact h5.win (.tail _ (.tail _ (.head _))); done)
      clear hK K
      (try simp only [Act.put, jA, jB, jC, jD, jE, jF])
      generalize (World.alloc _ _) = W5 at h5 hHeld ⊢
      generalize W4.heap.size = g6 at h5 ⊢
      refine wpAnyH_ready (rs := [5]) (by decide +kernel) (by simp) ?_
      refine AllReadyH.cons rfl (fun K hK => ?_) AllReadyH.nil
      (try simp only [jA, jB, jC])
      go_simp
      go_at_call 140
      refine (HF2.out _).mono ?_
      rintro e' W6 ⟨rfl, hB5⟩
      have h6 := h5.on hB5
      refine hK.out _ _ ?_ (fun hHeld => ?_)
      focus ((try dsimp only); exact h6.win (.tail _ (.tail _ (.head _))); done)
      clear hK K
      (try simp only [Act.put, jA, jB, jC, jD, jE, jF])
      obtain ⟨_, _⟩ := h6.pt (.tail _ (.head _))
      obtain ⟨_, _⟩ := h6.fz (.tail _ (.head _))
      have hA := h6.swap2 (.int .i64 x.1) (.int .i64 x.2)
      refine wpAnyH_ready (rs := [8]) (by decide +kernel) (by simp) ?_
      refine AllReadyH.cons rfl (fun K hK => ?_) AllReadyH.nil
      (try simp only [jA, jB, jC])
      go_simp
      refine hK.out _ _ ?_ (fun hHeld => ?_)
      focus ((try dsimp only); exact hA.win (.tail _ (.tail _ (.head _))); done)
      clear hK K
      (try simp only [Act.put, jA, jB, jC, jD, jE, jF])
      generalize (World.setCell _ _ _) = WA at hA hHeld ⊢
      obtain ⟨_, _⟩ := hA.pt (.head _)
      obtain ⟨_, _⟩ := hA.fz (.head _)
      have hC := hA.set2 (.int .i64 z.1) (.int .i64 z.2)
      refine wpAnyH_ready (rs := [9]) (by decide +kernel) (by simp) ?_
      refine AllReadyH.cons rfl (fun K hK => ?_) AllReadyH.nil
      (try simp only [jA, jB, jC])
      go_simp
      refine hK.out _ _ ?_ (fun hHeld => ?_)
      focus ((try dsimp only); exact hC.win (.tail _ (.tail _ (.head _))); done)
      clear hK K
      (try simp only [Act.put, jA, jB, jC, jD, jE, jF])
      refine wpAnyH_done (by decide +kernel) ?_ _
      go_wp2_with fail
      go_meet
      exact ⟨_, _, rfl, rfl, hC.1, (hC.2.1 _ (.tail _ (.head _))).1, (hC.2.1 _ (.head _)).1⟩
    ·have h4 := h3.new #[.int .i64 0, .int .i64 0] 87
     (try simp only [jA, jB, jC])
     go_simp
     refine hK.out _ _ ?_ (fun hHeld => ?_)
     focus ((try dsimp only); exact h4.win (.tail _ (.tail _ (.head _))); done)
     clear hK K
     (try simp only [Act.put, jA, jB, jC, jD, jE, jF])
     generalize (World.alloc _ _) = W4 at h4 hHeld ⊢
     generalize W3.heap.size = g6 at h4 ⊢
     refine wpAnyH_ready (rs := [2]) (by decide +kernel) (by simp) ?_
     refine AllReadyH.cons rfl (fun K hK => ?_) AllReadyH.nil
     (try simp only [jA, jB, jC])
     go_simp
     go_at_call 140
     refine (HF1.out _).mono ?_
     rintro e' W5 ⟨rfl, hB4⟩
     have h5 := h4.on hB4
     refine hK.out _ _ ?_ (fun hHeld => ?_)
     focus ((try dsimp only); exact h5.win (.tail _ (.tail _ (.head _))); done)
     clear hK K
     (try simp only [Act.put, jA, jB, jC, jD, jE, jF])
     refine wpAnyH_ready (rs := [5]) (by decide +kernel) (by simp) ?_
     refine AllReadyH.cons rfl (fun K hK => ?_) AllReadyH.nil
     (try simp only [jA, jB, jC])
     go_simp
     go_at_call 140
     refine (HF2.out _).mono ?_
     rintro e' W6 ⟨rfl, hB5⟩
     have h6 := h5.on hB5
     refine hK.out _ _ ?_ (fun hHeld => ?_)
     focus ((try dsimp only); exact h6.win (.tail _ (.tail _ (.head _))); done)
     clear hK K
     (try simp only [Act.put, jA, jB, jC, jD, jE, jF])
     obtain ⟨_, _⟩ := h6.pt (.tail _ (.head _))
     obtain ⟨_, _⟩ := h6.fz (.tail _ (.head _))
     have hA := h6.swap2 (.int .i64 x.1) (.int .i64 x.2)
     refine wpAnyH_ready (rs := [8]) (by decide +kernel) (by simp) ?_
     refine AllReadyH.cons rfl (fun K hK => ?_) AllReadyH.nil
     (try simp only [jA, jB, jC])
     go_simp
     refine hK.out _ _ ?_ (fun hHeld => ?_)
     focus ((try dsimp only); exact hA.win (.tail _ (.tail _ (.head _))); done)
     clear hK K
     (try simp only [Act.put, jA, jB, jC, jD, jE, jF])
     generalize (World.setCell _ _ _) = WA at hA hHeld ⊢
     obtain ⟨_, _⟩ := hA.pt (.head _)
     obtain ⟨_, _⟩ := hA.fz (.head _)
     have hC := hA.set2 (.int .i64 z.1) (.int .i64 z.2)
     refine wpAnyH_ready (rs := [9]) (by decide +kernel) (by simp) ?_
     refine AllReadyH.cons rfl (fun K hK => ?_) AllReadyH.nil
     (try simp only [jA, jB, jC])
     go_simp
     refine hK.out _ _ ?_ (fun hHeld => ?_)
     focus ((try dsimp only); exact hC.win (.tail _ (.tail _ (.head _))); done)
     clear hK K
     (try simp only [Act.put, jA, jB, jC, jD, jE, jF])
     refine wpAnyH_done (by decide +kernel) ?_ _
     go_wp2_with fail
     go_meet
     exact ⟨_, _, rfl, rfl, hC.1, (hC.2.1 _ (.tail _ (.head _))).1, (hC.2.1 _ (.head _)).1⟩
   ·have h3 := h2.new #[.int .i64 0, .int .i64 0] 87
    (try simp only [jA, jB, jC])
    go_simp
    refine hK.out _ _ ?_ (fun hHeld => ?_)
    focus ((try dsimp only); exact h3.win (.tail _ (.head _)); done)
    clear hK K
    (try simp only [Act.put, jA, jB, jC, jD, jE, jF])
    generalize (World.alloc _ _) = W3 at h3 hHeld ⊢
    generalize W2.heap.size = g6 at h3 ⊢
    refine wpAnyH_ready (rs := [2, 6]) (by decide +kernel) (by simp) ?_
    refine AllReadyH.cons rfl (fun K hK => ?_) (AllReadyH.cons rfl (fun K hK => ?_) AllReadyH.nil)
    ·(try simp only [jA, jB, jC])
     go_simp
     go_at_call 140
     refine (HF1.out _).mono ?_
     rintro e' W4 ⟨rfl, hB3⟩
     have h4 := h3.on hB3
     refine hK.out _ _ ?_ (fun hHeld => ?_)
     focus ((try dsimp only); exact h4.win (.tail _ (.head _)); done)
     clear hK K
     (try simp only [Act.put, jA, jB, jC, jD, jE, jF])
     refine wpAnyH_ready (rs := [5, 6]) (by decide +kernel) (by simp) ?_
     refine AllReadyH.cons rfl (fun K hK => ?_) (AllReadyH.cons rfl (fun K hK => ?_) AllReadyH.nil)
     ·(try simp only [jA, jB, jC])
      go_simp
      go_at_call 140
      refine (HF2.out _).mono ?_
      rintro e' W5 ⟨rfl, hB4⟩
      have h5 := h4.on hB4
      refine hK.out _ _ ?_ (fun hHeld => ?_)
      focus ((try dsimp only); exact h5.win (.tail _ (.head _)); done)
      clear hK K
      (try simp only [Act.put, jA, jB, jC, jD, jE, jF])
      refine wpAnyH_ready (rs := [6]) (by decide +kernel) (by simp) ?_
      refine AllReadyH.cons rfl (fun K hK => ?_) AllReadyH.nil
      have h6 := h5.new #[.int .i64 0, .int .i64 0] 87
      (try simp only [jA, jB, jC])
      go_simp
      refine hK.out _ _ ?_ (fun hHeld => ?_)
      focus ((try dsimp only); exact h6.win (.tail _ (.tail _ (.head _))); done)
      clear hK K
      (try simp only [Act.put, jA, jB, jC, jD, jE, jF])
      generalize (World.alloc _ _) = W6 at h6 hHeld ⊢
      generalize W5.heap.size = g5 at h6 ⊢
      obtain ⟨_, _⟩ := h6.pt (.head _)
      obtain ⟨_, _⟩ := h6.fz (.head _)
      have hA := h6.set2 (.int .i64 x.1) (.int .i64 x.2)
      refine wpAnyH_ready (rs := [8]) (by decide +kernel) (by simp) ?_
      refine AllReadyH.cons rfl (fun K hK => ?_) AllReadyH.nil
      (try simp only [jA, jB, jC])
      go_simp
      refine hK.out _ _ ?_ (fun hHeld => ?_)
      focus ((try dsimp only); exact hA.win (.tail _ (.tail _ (.head _))); done)
      clear hK K
      (try simp only [Act.put, jA, jB, jC, jD, jE, jF])
      generalize (World.setCell _ _ _) = WA at hA hHeld ⊢
      obtain ⟨_, _⟩ := hA.pt (.tail _ (.head _))
      obtain ⟨_, _⟩ := hA.fz (.tail _ (.head _))
      have hC := hA.swap2 (.int .i64 z.1) (.int .i64 z.2)
      refine wpAnyH_ready (rs := [9]) (by decide +kernel) (by simp) ?_
      refine AllReadyH.cons rfl (fun K hK => ?_) AllReadyH.nil
      (try simp only [jA, jB, jC])
      go_simp
      refine hK.out _ _ ?_ (fun hHeld => ?_)
      focus ((try dsimp only); exact hC.win (.tail _ (.tail _ (.head _))); done)
      clear hK K
      (try simp only [Act.put, jA, jB, jC, jD, jE, jF])
      refine wpAnyH_done (by decide +kernel) ?_ _
      go_wp2_with fail
      go_meet
      exact ⟨_, _, rfl, rfl, hC.1, (hC.2.1 _ (.head _)).1, (hC.2.1 _ (.tail _ (.head _))).1⟩
     ·have h5 := h4.new #[.int .i64 0, .int .i64 0] 87
      (try simp only [jA, jB, jC])
      go_simp
      refine hK.out _ _ ?_ (fun hHeld => ?_)
      focus ((try dsimp only); exact h5.win (.tail _ (.tail _ (.head _))); done)
      clear hK K
      (try simp only [Act.put, jA, jB, jC, jD, jE, jF])
      generalize (World.alloc _ _) = W5 at h5 hHeld ⊢
      generalize W4.heap.size = g5 at h5 ⊢
      refine wpAnyH_ready (rs := [5]) (by decide +kernel) (by simp) ?_
      refine AllReadyH.cons rfl (fun K hK => ?_) AllReadyH.nil
      (try simp only [jA, jB, jC])
      go_simp
      go_at_call 140
      refine (HF2.out _).mono ?_
      rintro e' W6 ⟨rfl, hB5⟩
      have h6 := h5.on hB5
      refine hK.out _ _ ?_ (fun hHeld => ?_)
      focus ((try dsimp only); exact h6.win (.tail _ (.tail _ (.head _))); done)
      clear hK K
      (try simp only [Act.put, jA, jB, jC, jD, jE, jF])
      obtain ⟨_, _⟩ := h6.pt (.head _)
      obtain ⟨_, _⟩ := h6.fz (.head _)
      have hA := h6.set2 (.int .i64 x.1) (.int .i64 x.2)
      refine wpAnyH_ready (rs := [8]) (by decide +kernel) (by simp) ?_
      refine AllReadyH.cons rfl (fun K hK => ?_) AllReadyH.nil
      (try simp only [jA, jB, jC])
      go_simp
      refine hK.out _ _ ?_ (fun hHeld => ?_)
      focus ((try dsimp only); exact hA.win (.tail _ (.tail _ (.head _))); done)
      clear hK K
      (try simp only [Act.put, jA, jB, jC, jD, jE, jF])
      generalize (World.setCell _ _ _) = WA at hA hHeld ⊢
      obtain ⟨_, _⟩ := hA.pt (.tail _ (.head _))
      obtain ⟨_, _⟩ := hA.fz (.tail _ (.head _))
      have hC := hA.swap2 (.int .i64 z.1) (.int .i64 z.2)
      refine wpAnyH_ready (rs := [9]) (by decide +kernel) (by simp) ?_
      refine AllReadyH.cons rfl (fun K hK => ?_) AllReadyH.nil
      (try simp only [jA, jB, jC])
      go_simp
      refine hK.out _ _ ?_ (fun hHeld => ?_)
      focus ((try dsimp only); exact hC.win (.tail _ (.tail _ (.head _))); done)
      clear hK K
      (try simp only [Act.put, jA, jB, jC, jD, jE, jF])
      refine wpAnyH_done (by decide +kernel) ?_ _
      go_wp2_with fail
      go_meet
      exact ⟨_, _, rfl, rfl, hC.1, (hC.2.1 _ (.head _)).1, (hC.2.1 _ (.tail _ (.head _))).1⟩
    ·have h4 := h3.new #[.int .i64 0, .int .i64 0] 87
     (try simp only [jA, jB, jC])
     go_simp
     refine hK.out _ _ ?_ (fun hHeld => ?_)
     focus ((try dsimp only); exact h4.win (.tail _ (.tail _ (.head _))); done)
     clear hK K
     (try simp only [Act.put, jA, jB, jC, jD, jE, jF])
     generalize (World.alloc _ _) = W4 at h4 hHeld ⊢
     generalize W3.heap.size = g5 at h4 ⊢
     refine wpAnyH_ready (rs := [2]) (by decide +kernel) (by simp) ?_
     refine AllReadyH.cons rfl (fun K hK => ?_) AllReadyH.nil
     (try simp only [jA, jB, jC])
     go_simp
     go_at_call 140
     refine (HF1.out _).mono ?_
     rintro e' W5 ⟨rfl, hB4⟩
     have h5 := h4.on hB4
     refine hK.out _ _ ?_ (fun hHeld => ?_)
     focus ((try dsimp only); exact h5.win (.tail _ (.tail _ (.head _))); done)
     clear hK K
     (try simp only [Act.put, jA, jB, jC, jD, jE, jF])
     refine wpAnyH_ready (rs := [5]) (by decide +kernel) (by simp) ?_
     refine AllReadyH.cons rfl (fun K hK => ?_) AllReadyH.nil
     (try simp only [jA, jB, jC])
     go_simp
     go_at_call 140
     refine (HF2.out _).mono ?_
     rintro e' W6 ⟨rfl, hB5⟩
     have h6 := h5.on hB5
     refine hK.out _ _ ?_ (fun hHeld => ?_)
     focus ((try dsimp only); exact h6.win (.tail _ (.tail _ (.head _))); done)
     clear hK K
     (try simp only [Act.put, jA, jB, jC, jD, jE, jF])
     obtain ⟨_, _⟩ := h6.pt (.head _)
     obtain ⟨_, _⟩ := h6.fz (.head _)
     have hA := h6.set2 (.int .i64 x.1) (.int .i64 x.2)
     refine wpAnyH_ready (rs := [8]) (by decide +kernel) (by simp) ?_
     refine AllReadyH.cons rfl (fun K hK => ?_) AllReadyH.nil
     (try simp only [jA, jB, jC])
     go_simp
     refine hK.out _ _ ?_ (fun hHeld => ?_)
     focus ((try dsimp only); exact hA.win (.tail _ (.tail _ (.head _))); done)
     clear hK K
     (try simp only [Act.put, jA, jB, jC, jD, jE, jF])
     generalize (World.setCell _ _ _) = WA at hA hHeld ⊢
     obtain ⟨_, _⟩ := hA.pt (.tail _ (.head _))
     obtain ⟨_, _⟩ := hA.fz (.tail _ (.head _))
     have hC := hA.swap2 (.int .i64 z.1) (.int .i64 z.2)
     refine wpAnyH_ready (rs := [9]) (by decide +kernel) (by simp) ?_
     refine AllReadyH.cons rfl (fun K hK => ?_) AllReadyH.nil
     (try simp only [jA, jB, jC])
     go_simp
     refine hK.out _ _ ?_ (fun hHeld => ?_)
     focus ((try dsimp only); exact hC.win (.tail _ (.tail _ (.head _))); done)
     clear hK K
     (try simp only [Act.put, jA, jB, jC, jD, jE, jF])
     refine wpAnyH_done (by decide +kernel) ?_ _
     go_wp2_with fail
     go_meet
     exact ⟨_, _, rfl, rfl, hC.1, (hC.2.1 _ (.head _)).1, (hC.2.1 _ (.tail _ (.head _))).1⟩
 case rest =>
  clear HQ1 HF1 HF2 HCK
  obtain ⟨g5, g6, rfl, rfl, hB, hc5, hc6⟩ := hcut
  have HB0 := Lib.hid hB
  have HC5 := Lib.hid (fun W (h : Below wc.heap.size wc W) => box_at hc5 h)
  have HC6 := Lib.hid (fun W (h : Below wc.heap.size wc W) => box_at hc6 h)
  clear hB hc5 hc6
  obtain ⟨x1, x2⟩ := x
  obtain ⟨z1, z2⟩ := z
  dsimp only at *
  obtain ⟨c0, -⟩ := HC5.out _ (Below.refl _ wc)
  have HR0 : RowI wc 87 2 encP (.slice none 0 0) [] wc := RowI.nil (Below.refl _ _)
  go_wp2_with fail
  go_loopg [7, 8] n (fun gg v s8 wr => ∃ i : Nat, i ≤ n ∧ gg = n - i ∧ s8 = .int .i64 (x1 + (i : Int)) ∧ RowI wc 87 2 encP v (spP x1 i x2 m) wr)
  case atStart => exact ⟨0, Nat.zero_le _, rfl, by simp, HR0⟩
  case round =>
   clear HR0 c0
   obtain ⟨i, hi, hgk, rfl, HV⟩ := hrel
   have HGK := Lib.hid hgk
   clear hgk
   obtain ⟨d0, d1⟩ := HC6.out _ HV.1
   obtain ⟨k0, k1⟩ := HC5.out _ HV.1
   have hn1 := HN1.out
   have hn2 := HN2.out
   have hb1 := HB1.out
   have hb2 := HB2.out
   have hb3 := HB3.out
   have hb4 := HB4.out
   by_cases hlt : i < n
   ·have b0 : -4 ≤ x1 + (i : Int) := by omega
    have b1 : x1 + (i : Int) ≤ 4 := by omega
    have b2 : x1 + (i : Int) ≤ z1 := by omega
    have hm9 : m ≤ 9 := by omega
    have HLN : Hid ((spP x1 i x2 m).length ≤ 81) := by
     unfold Hid
     rw [spP_len]
     have hi9 : i ≤ 9 := by omega
     exact Nat.le_trans (Nat.mul_le_mul hi9 hm9) (by decide)
    have HT := Lib.hid (spP_succ x1 i x2 m)
    have HX1 : Hid (x1 + (i : Int) + 1 = x1 + ((i + 1 : Nat) : Int)) := by unfold Hid; omega
    generalize spP x1 i x2 m = es at *
    generalize hxi : x1 + (i : Int) = xi at *
    have HXI := Lib.hid hxi
    clear hxi hn1 hb1 hb3
    go_wp2_with fail
    go_loopg [7, 9] m (fun gg v s9 wr => ∃ j : Nat, j ≤ m ∧ gg = m - j ∧ s9 = .int .i64 (x2 + (j : Int)) ∧ RowI wc 87 2 encP v (es ++ yrow xi x2 j) wr)
    case atStart => exact ⟨0, Nat.zero_le _, rfl, by simp, by rw [yrow_zero, List.append_nil]; exact HV⟩
    case round =>
     clear HV d0 d1 k0 k1
     obtain ⟨j, hj, hgk, rfl, HV⟩ := hrel
     have HGJ := Lib.hid hgk
     clear hgk
     obtain ⟨d0, d1⟩ := HC6.out _ HV.1
     by_cases hjt : j < m
     ·have a0 : -4 ≤ x2 + (j : Int) := by omega
      have a1 : x2 + (j : Int) ≤ 4 := by omega
      have a2 : x2 + (j : Int) ≤ z2 := by omega
      have HLJ : Hid ((es ++ yrow xi x2 j).length ≤ 1000) := by
       unfold Hid
       rw [List.length_append, yrow_len]
       have := HLN.out
       omega
      have HTJ : Hid (es ++ yrow xi x2 (j + 1) = (es ++ yrow xi x2 j) ++ [(xi, x2 + (j : Int))]) := by
       unfold Hid
       rw [yrow_succ, List.append_assoc]
      have HY1 : Hid (x2 + (j : Int) + 1 = x2 + ((j + 1 : Nat) : Int)) := by unfold Hid; omega
      generalize es ++ yrow xi x2 j = fs at *
      generalize hyj : x2 + (j : Int) = yj at *
      clear hyj hn2 hb2 hb4 hm9
      go_wp2_with (at_builtin; refine append_item kindC Tryz.underlying82 HV (xi, yj) 87 rfl (by have := HLJ.out; unfold maxLen; omega) (by have := HLJ.out; omega) rfl _ _ rfl rfl _ rfl ?_; rintro v9 w9 HR9)
      go_roundg (m - (j + 1))
      case measure => have := HGJ.out; omega
      case rel => exact ⟨j + 1, by omega, rfl, by rw [← HY1.out], by rw [HTJ.out]; exact HR9⟩
     ·obtain rfl : j = m := by omega
      have a3 : ¬ x2 + (j : Int) ≤ z2 := by omega
      rw [← HT.out] at HV
      clear hn2
      go_wp2_with fail
      go_roundg (n - (i + 1))
      case measure => have := HGK.out; omega
      case rel => exact ⟨i + 1, by omega, rfl, by rw [← HX1.out], HV⟩
   ·obtain rfl : i = n := by omega
    have a3 : ¬ x1 + (i : Int) ≤ z1 := by omega
    have HV' := Lib.hid HV
    clear HV hn1 hn2 d1 k0 k1
    go_wp2
    refine bodyPost_ret (v := .tuple #[_, .int .i64 0]) ?_ rfl ⟨_, rfl, by rw [HSP.out]; exact RowI.based HV'.out HB0.out⟩
    simp [results, Tryz.results102, go_sem]
end Go.Proofs.YtjlnjjmomohpaaaGreat

namespace Go.Proofs.YtjlnjjmomohpaaaGreat
open Go.RowKit
theorem cells_at {w : World} {B : Nat} {A : Option Addr} {l : List (Int × Int)} (h : Items w B A encP l) {k : Nat} (hk : k < l.length) : ∃ ad, A = some ad ∧ ad.block < B ∧ w.cell? (ad.add (k * 2)) = some (.int .i64 l[k].1) ∧ w.cell? ⟨(ad.add (k * 2)).block, (ad.add (k * 2)).off + 1, none⟩ = some (.int .i64 l[k].2) := by
 obtain ⟨ad, e, hb, h0, hc⟩ := h.at kindC.len hk
 exact ⟨ad, e, hb, h0 _ (by decide) rfl, hc 1 _ (by decide) (by decide) rfl⟩
end Go.Proofs.YtjlnjjmomohpaaaGreat

namespace Go.Proofs.YtjlnjjmomohpaaaGreat
open Go.RowKit
theorem awS_if (z : (Int × Int) × (Int × Int)) (p : Int × Int) : awS z p = (((if p.1 < z.1.1 then p.1 else z.1.1), (if p.2 < z.1.2 then p.2 else z.1.2)), ((if z.2.1 < p.1 then p.1 else z.2.1), (if z.2.2 < p.2 then p.2 else z.2.2))) := by
 unfold awS
 apply Prod.ext <;> apply Prod.ext <;> dsimp only <;> split <;> omega
theorem Hold.win4 {w W : World} {g : Nat} {t : TypeId} {a b c d : Value} {L : List (Nat × Array Value × TypeId)} (h : Hold w ((g, #[a, b, c, d], t) :: L) W) : W.cell? ⟨g, 0, none⟩ = some a ∧ W.cell? ⟨g, 1, none⟩ = some b ∧ W.cell? ⟨g, 2, none⟩ = some c ∧ W.cell? ⟨g, 3, none⟩ = some d := ⟨h.cell (.head _) 0, h.cell (.head _) 1, h.cell (.head _) 2, h.cell (.head _) 3⟩
set_option maxRecDepth 100000 in
set_option maxHeartbeats 8000000 in
theorem aroundG_any (ps : List (Int × Int)) (A : Option Addr) (cap : Nat) (h0 : 0 < ps.length) (hn : ps.length ≤ 1000) (w : World) (hr : Pts w w.heap.size A ps) :
  Calls Tryz.prog 103 #[.slice A ps.length cap] w fun e w' => e = .returned (.agg #[.int .i64 (awL ps).1.1, .int .i64 (awL ps).1.2, .int .i64 (awL ps).2.1, .int .i64 (awL ps).2.2]) ∧ Below w.heap.size w w' := by
 have HR := Lib.hid hr
 obtain ⟨ad, rfl, -, k0, k1⟩ := hr.nx (Below.refl _ w) h0 (Nat.mod_eq_of_lt h0)
 have HAT : Hid (awT ps 0 = (nx ps 0, nx ps 0)) := rfl
 have HAL : Hid (awL ps = awT ps ps.length) := rfl
 have p0 : (0 : Int) < (ps.length : Int) := by omega
 have p1 : (ps.length : Int) ≤ 1000 := by omega
 clear hr k0 k1
 have HQ := (Hold.refl w).new #[.int .i64 0, .int .i64 0, .int .i64 0, .int .i64 0] 85
 go_enter Tryz.func103, Tryz.ntmps103
 go_upto_region 1 with (fail)
 generalize (World.alloc _ _) = W1 at HQ ⊢
 obtain ⟨g2, hg2⟩ : ∃ g, w.heap.size = g := ⟨_, rfl⟩
 have HK : Hid (∀ W, Below w.heap.size w W → W.cell? (ad.add (0 * 2)) = some (.int .i64 (nx ps 0).1) ∧ W.cell? ⟨(ad.add (0 * 2)).block, (ad.add (0 * 2)).off + 1, none⟩ = some (.int .i64 (nx ps 0).2)) := fun W hb => by
  obtain ⟨ad', e', -, k0, k1⟩ := HR.out.nx hb h0 (Nat.mod_eq_of_lt h0)
  obtain rfl := Option.some.inj e'
  exact ⟨k0, k1⟩
 have HQ0 := Lib.hid HQ
 rw [hg2] at HQ ⊢
 have HG2 := Lib.hid hg2
 clear hg2
 have h2 := HQ.drew
 clear HQ
 have e0 : ad.add (0 * 2) = ad := by rw [Nat.zero_mul]; rfl
 rw [e0] at HK
 generalize nx ps 0 = a at *
 refine wp_region_held_drew (S := fun W => W.cell? ad = some (.int .i64 a.1) ∧ W.cell? ⟨ad.block, ad.off + 1, none⟩ = some (.int .i64 a.2)) (by kernel_rfl) ?_ (fun hHeld => ?_)
 ·(try dsimp only)
  exact HK.out _ h2.1
 refine tZ 0 ?_; refine tZ 1 ?_; refine tZ 2 ?_; refine tZ 3 ?_; refine tZ 4 ?_; refine tZ 5 ?_; refine tZ 6 ?_
 generalize (World.drew _) = W2 at h2 hHeld ⊢
 have h3 := h2.new #[.int .i64 0, .int .i64 0, .int .i64 0, .int .i64 0] 85
 refine wpAnyH_ready (rs := [7]) (by decide +kernel) (by simp) ?_
 refine AllReadyH.cons rfl (fun K hK => ?_) AllReadyH.nil
 (try simp only [jA, jB, jC])
 go_simp
 refine hK.out _ _ ?_ (fun hHeld => ?_)
 focus ((try dsimp only); exact HK.out _ h3.1; done)
 clear hK K
 (try simp only [Act.put, jA, jB, jC, jD, jE, jF])
 generalize (World.alloc _ _) = W3 at h3 hHeld ⊢
 generalize W2.heap.size = g3 at h3 ⊢
 have f0 := h3.frozen (.head _) 0
 have f1 := h3.frozen (.head _) 1
 have f2 := h3.frozen (.head _) 2
 have f3 := h3.frozen (.head _) 3
 obtain ⟨c0, c1, c2, c3⟩ := h3.win4
 have h4 : Hold w [(g3, #[.int .i64 a.1, .int .i64 a.2, .int .i64 a.1, .int .i64 a.2], 85), (g2, #[.int .i64 0, .int .i64 0, .int .i64 0, .int .i64 0], 85)] ((((W3.setCell ⟨g3, 0, none⟩ (.int .i64 a.1)).setCell ⟨g3, 1, none⟩ (.int .i64 a.2)).setCell ⟨g3, 2, none⟩ (.int .i64 a.1)).setCell ⟨g3, 3, none⟩ (.int .i64 a.2)) := (((h3.set 0 (.int .i64 a.1)).set 1 (.int .i64 a.2)).set 2 (.int .i64 a.1)).set 3 (.int .i64 a.2)
 refine wpAnyH_ready (rs := [8]) (by decide +kernel) (by simp) ?_
 refine AllReadyH.cons rfl (fun K hK => ?_) AllReadyH.nil
 (try simp only [jA, jB, jC])
 go_simp
 refine hK.out _ _ ?_ (fun hHeld => ?_)
 focus ((try dsimp only); exact HK.out _ h4.1; done)
 clear hK K
 (try simp only [Act.put, jA, jB, jC, jD, jE, jF])
 generalize (World.setCell _ _ _) = W4 at h4 hHeld ⊢
 refine wpAnyH_done (by decide +kernel) ?_ _
 clear c0 c1 c2 c3 f0 f1 f2 f3 h3 h2 hHeld HK
 go_wp2_with fail
 go_loopg [15] ps.length (fun gg s15 wr => ∃ k : Nat, ∃ z : (Int × Int) × (Int × Int), k ≤ ps.length ∧ gg = ps.length - k ∧ s15 = .int .i64 k ∧ Hid (awT ps k = z) ∧ Hold w [(g3, #[.int .i64 z.1.1, .int .i64 z.1.2, .int .i64 z.2.1, .int .i64 z.2.2], 85), (g2, #[.int .i64 0, .int .i64 0, .int .i64 0, .int .i64 0], 85)] wr)
 case atStart => exact ⟨0, (a, a), by omega, rfl, rfl, HAT.out, h4⟩
 case round =>
  clear h4
  obtain ⟨k, z, hk, hgk, rfl, HZ, HH⟩ := hrel
  have HGK := Lib.hid hgk
  clear hgk
  by_cases hlt : k < ps.length
  ·obtain ⟨ad', e', -, d0, d1⟩ := HR.out.nx HH.1 hlt (Nat.mod_eq_of_lt hlt)
   obtain rfl := Option.some.inj e'
   have b0 : (0 : Int) ≤ (k : Int) := by omega
   have b1 : (k : Int) < (ps.length : Int) := by omega
   have HT : Hid (awT ps (k + 1) = awS z (nx ps k)) := by unfold Hid; rw [awT_succ, HZ.out]
   clear e'
   generalize nx ps k = p at *
   go_upto_region 5 with (fail)
   have h5 := HH.new #[.int .i64 p.1, .int .i64 p.2] 56
   clear HH d0 d1
   generalize (World.alloc _ _) = W5 at h5 ⊢
   generalize wr.heap.size = g5 at h5 ⊢
   obtain ⟨c0, c1, c2, c3⟩ := h5.tail.win4
   obtain ⟨d0, d1⟩ := h5.pt (.head _)
   have f0 := h5.frozen (.tail _ (.head _)) 0
   have f1 := h5.frozen (.tail _ (.head _)) 1
   obtain ⟨x1, q1⟩ : ∃ x, (if p.1 < z.1.1 then p.1 else z.1.1) = x := ⟨_, rfl⟩
   obtain ⟨x2, q2⟩ : ∃ x, (if p.2 < z.1.2 then p.2 else z.1.2) = x := ⟨_, rfl⟩
   obtain ⟨x3, q3⟩ : ∃ x, (if z.2.1 < p.1 then p.1 else z.2.1) = x := ⟨_, rfl⟩
   obtain ⟨x4, q4⟩ : ∃ x, (if z.2.2 < p.2 then p.2 else z.2.2) = x := ⟨_, rfl⟩
   have r1 : min z.1.1 p.1 = x1 := by rw [← q1]; split <;> omega
   have r2 : min z.1.2 p.2 = x2 := by rw [← q2]; split <;> omega
   have r3 : max z.2.1 p.1 = x3 := by rw [← q3]; split <;> omega
   have r4 : max z.2.2 p.2 = x4 := by rw [← q4]; split <;> omega
   have HW : Hid (awS z p = ((x1, x2), (x3, x4))) := by
    unfold Hid
    rw [← q1, ← q2, ← q3, ← q4]
    exact awS_if z p
   have h6 : Hold w [(g5, #[.int .i64 p.1, .int .i64 p.2], 56), (g3, #[.int .i64 x1, .int .i64 x2, .int .i64 z.2.1, .int .i64 z.2.2], 85), (g2, #[.int .i64 0, .int .i64 0, .int .i64 0, .int .i64 0], 85)] ((W5.setCell ⟨g3, 0, none⟩ (.int .i64 x1)).setCell ⟨g3, 1, none⟩ (.int .i64 x2)) := (h5.swap 0 (.int .i64 x1)).swap 1 (.int .i64 x2)
   go_upto_region 6 with (fail)
   clear c0 c1 c2 c3 d0 d1 f0 f1 h5
   generalize (World.setCell _ _ _) = W6 at h6 ⊢
   obtain ⟨c0, c1, c2, c3⟩ := h6.tail.win4
   obtain ⟨d0, d1⟩ := h6.pt (.head _)
   have f0 := h6.frozen (.tail _ (.head _)) 2
   have f1 := h6.frozen (.tail _ (.head _)) 3
   have h7 : Hold w [(g5, #[.int .i64 p.1, .int .i64 p.2], 56), (g3, #[.int .i64 x1, .int .i64 x2, .int .i64 x3, .int .i64 x4], 85), (g2, #[.int .i64 0, .int .i64 0, .int .i64 0, .int .i64 0], 85)] ((W6.setCell ⟨g3, 2, none⟩ (.int .i64 x3)).setCell ⟨g3, 3, none⟩ (.int .i64 x4)) := (h6.swap 2 (.int .i64 x3)).swap 3 (.int .i64 x4)
   go_upto_region 7 with (fail)
   clear c0 c1 c2 c3 d0 d1 f0 f1 h6
   generalize (World.setCell _ _ _) = W7 at h7 ⊢
   clear q1 q2 q3 q4
   go_wp2_with fail
   go_roundg (ps.length - (k + 1))
   case measure => have := HGK.out; omega
   case rel => exact ⟨k + 1, ((x1, x2), (x3, x4)), by omega, rfl, by go_num, by unfold Hid; rw [HT.out, HW.out], h7.tail⟩
  ·obtain rfl : k = ps.length := by omega
   have a3 : ¬ ((ps.length : Int) < (ps.length : Int)) := by omega
   have HZ2 := Lib.hid (HAL.out.trans HZ.out)
   obtain ⟨c0, c1, c2, c3⟩ := HH.win4
   have f0 := HH.frozen (.tail _ (.head _)) 0
   have f1 := HH.frozen (.tail _ (.head _)) 1
   have f2 := HH.frozen (.tail _ (.head _)) 2
   have f3 := HH.frozen (.tail _ (.head _)) 3
   obtain ⟨k0, k1, k2, k3⟩ := HH.tail.win4
   have HE : Hold w [(g3, #[.int .i64 z.1.1, .int .i64 z.1.2, .int .i64 z.2.1, .int .i64 z.2.2], 85), (g2, #[.int .i64 z.1.1, .int .i64 z.1.2, .int .i64 z.2.1, .int .i64 z.2.2], 85)] ((((wr.setCell ⟨g2, 0, none⟩ (.int .i64 z.1.1)).setCell ⟨g2, 1, none⟩ (.int .i64 z.1.2)).setCell ⟨g2, 2, none⟩ (.int .i64 z.2.1)).setCell ⟨g2, 3, none⟩ (.int .i64 z.2.2)) := (((HH.swap 0 (.int .i64 z.1.1)).swap 1 (.int .i64 z.1.2)).swap 2 (.int .i64 z.2.1)).swap 3 (.int .i64 z.2.2)
   obtain ⟨n0, n1, n2, n3⟩ := HE.tail.win4
   have HB := Lib.hid HE.1
   clear HE HH HZ
   go_wp2
   refine bodyPost_ret (v := .agg #[.int .i64 z.1.1, .int .i64 z.1.2, .int .i64 z.2.1, .int .i64 z.2.2]) ?_ rfl ⟨by rw [HZ2.out], HB.out⟩
   simp [results, Tryz.results103, go_sem, n0, n1, n2, n3]
end Go.Proofs.YtjlnjjmomohpaaaGreat

namespace Go.Proofs.YtjlnjjmomohpaaaGreat
open Go.RowKit
theorem aw_len {ps : List (Int × Int)} (hc : chE ps = 0) : 0 < ps.length ∧ ps.length ≤ 1000 := by
 obtain ⟨ha, hs⟩ := chE_zero.1 hc
 have := (arE_zero.1 ha).1
 have := hs.1
 omega
theorem aw_ok {ps : List (Int × Int)} (hc : chE ps = 0) : wnE (awL ps).1 (awL ps).2 = 0 := by
 obtain ⟨ha, hs⟩ := chE_zero.1 hc
 have h0 := (aw_len hc).1
 obtain ⟨h1, h2⟩ := awT_gd (fun i => nx_gd (arE_zero.1 ha).2 h0 i) ps.length
 refine wnE_zero.2 ⟨?_, awT_le ps ps.length⟩
 simp only [gdL, List.all_cons, List.all_nil, Bool.and_true, Bool.and_eq_true]
 exact ⟨gd_iff.2 h1, gd_iff.2 h2⟩
set_option maxRecDepth 100000 in
set_option maxHeartbeats 4000000 in
theorem cells_good (ps : List (Int × Int)) (A : Option Addr) (cap : Nat) (hc : chE ps = 0) (w : World) (hr : Pts w w.heap.size A ps) :
  Calls Tryz.prog 66 #[.slice A ps.length cap] w fun e w' => ∃ v, e = .returned (.tuple #[v, .int .i64 0]) ∧ RowI w 87 2 encP v (spL (awL ps).1 (awL ps).2) w' := by
 have hl := aw_len hc
 have h := Check_any ps A cap (by unfold maxLen; omega) w hr
 rw [hc] at h
 have HC := Lib.hid h
 have HA := Lib.hid (fun W (hb : Below w.heap.size w W) => aroundG_any ps A cap hl.1 hl.2 W (hr.on hb))
 have HS := Lib.hid (fun W => span_good (awL ps).1 (awL ps).2 (aw_ok hc) W)
 clear hl h hc hr
 generalize awL ps = z at *
 obtain ⟨L, H⟩ := z
 dsimp only at *
 generalize spL L H = l at *
 go_enter Tryz.func66, Tryz.ntmps66
 go_wp2_with fail
 go_at_call 101
 refine HC.out.mono ?_
 rintro e w1 ⟨rfl, hB⟩
 have HB1 := Lib.hid hB
 clear hB
 go_wp2_with fail
 go_at_call 103
 refine (HA.out _ HB1.out).mono ?_
 rintro e w2 ⟨rfl, hB⟩
 have HB2 := Lib.hid (HB1.out.trans (hB.mono HB1.out.size))
 clear hB
 go_wp2_with fail
 go_at_call 102
 refine (HS.out _).mono ?_
 rintro e w3 ⟨v, rfl, HR⟩
 have HR3 := Lib.hid HR
 clear HR
 go_wp2
 refine bodyPost_ret (v := .tuple #[v, .int .i64 0]) ?_ rfl ⟨v, rfl, RowI.based HR3.out HB2.out⟩
 simp [results, Tryz.results66, go_sem]
end Go.Proofs.YtjlnjjmomohpaaaGreat
