/- The law GridGrows: a greater window has all cells of a smaller one, and none twice, by X, then by Y. -/
import Derived.Test.YtfihddpidaidiaaGridS
namespace Go.Proofs.Ytfihddpidaidiaa.gridGrows
open Go.RowKit

theorem ne_parts {a b : Int × Int} (h : ¬ a = b) : ¬ a.1 = b.1 ∨ (a.1 = b.1 ∧ ¬ a.2 = b.2) := by
  by_cases h1 : a.1 = b.1
  · exact .inr ⟨h1, fun h2 => h (Prod.ext h1 h2)⟩
  · exact .inl h1
theorem Hold.rdw {w W : World} {g0 g7 : Nat} {t0 t7 : TypeId} {a b c d a' b' c' d' : Value} (h : Hold w [(g7, #[a', b', c', d'], t7), (g0, #[a, b, c, d], t0)] W) : W.cell? ⟨g0, 0, none⟩ = some a ∧ W.cell? ⟨g0, 1, none⟩ = some b ∧ W.cell? ⟨g0, 2, none⟩ = some c ∧ W.cell? ⟨g0, 3, none⟩ = some d :=
  ⟨h.cell (.tail _ (.head _)) 0, h.cell (.tail _ (.head _)) 1, h.cell (.tail _ (.head _)) 2, h.cell (.tail _ (.head _)) 3⟩
theorem Hold.rdv {w W : World} {g0 g7 : Nat} {t0 t7 : TypeId} {a b c d a' b' c' d' : Value} (h : Hold w [(g7, #[a', b', c', d'], t7), (g0, #[a, b, c, d], t0)] W) : W.cell? ⟨g7, 0, none⟩ = some a' ∧ W.cell? ⟨g7, 1, none⟩ = some b' ∧ W.cell? ⟨g7, 2, none⟩ = some c' ∧ W.cell? ⟨g7, 3, none⟩ = some d' :=
  ⟨h.cell (.head _) 0, h.cell (.head _) 1, h.cell (.head _) 2, h.cell (.head _) 3⟩
set_option maxRecDepth 100000 in
set_option maxHeartbeats 8000000 in
theorem walk_bad1 (L H : Int × Int) (m n X Y : Int) (_hm0 : 0 ≤ m) (_hm1 : m ≤ 4294967295) (_hn0 : 0 ≤ n) (_hn1 : n ≤ 4294967295) (hx : IntKind.i64.wrap (H.1 + m) = X) (hy : IntKind.i64.wrap (H.2 + n) = Y) (he : wnE L H ≠ 0) (w : World) :
    Calls Try.prog 7 #[.agg #[.int .i64 L.1, .int .i64 L.2, .int .i64 H.1, .int .i64 H.2], .int .u32 m, .int .u32 n] w fun e w' => e = .returned (.bool true) ∧ Below w.heap.size w w' := by
  have HS1 := Lib.hid (fun W => span_any L H W)
  have HS2 := Lib.hid (fun W => span_any L (X, Y) W)
  have e0 : (wnE L H == 0) = false := by simpa using he
  clear he
  generalize wnE L H = x at *
  generalize wnE L (X, Y) = y at *
  generalize spanL L H = l at *
  generalize spanL L (X, Y) = l' at *
  have hm2 : IntKind.i64.wrap m = m := IntWalk.i64_in _ (by omega)
  have hn2 : IntKind.i64.wrap n = n := IntWalk.i64_in _ (by omega)
  have HQ := (Hold.refl w).new #[.int .i64 L.1, .int .i64 L.2, .int .i64 H.1, .int .i64 H.2] 34
  go_enter Try.func7, Try.ntmps7
  go_upto_region 1 with (fail)
  generalize (World.alloc _ _) = W1 at HQ ⊢
  obtain ⟨g0, hg0⟩ : ∃ g, w.heap.size = g := ⟨_, rfl⟩
  rw [hg0] at HQ ⊢
  have HG0 := Lib.hid hg0
  clear hg0
  obtain ⟨c0, c1, c2, c3⟩ := HQ.win (.head _)
  go_upto_region 2 with (fail)
  have HQ1 := HQ.new #[.int .i64 L.1, .int .i64 L.2, .int .i64 H.1, .int .i64 H.2] 34
  clear HQ c0 c1 c2 c3
  generalize (World.alloc _ _) = W2 at HQ1 ⊢
  generalize W1.heap.size = g7 at HQ1 ⊢
  have h2 := HQ1.drew
  clear HQ1
  refine wp_region_held_drew (S := fun W => W.cell? ⟨g0, 0, none⟩ = some (.int .i64 L.1) ∧ W.cell? ⟨g0, 1, none⟩ = some (.int .i64 L.2) ∧ W.cell? ⟨g0, 2, none⟩ = some (.int .i64 H.1) ∧ W.cell? ⟨g0, 3, none⟩ = some (.int .i64 H.2)) (by kernel_rfl) ?_ (fun hHeld => ?_)
  · (try dsimp only)
    exact Hold.rdw h2
  refine tZ 0 ?_; refine tZ 1 ?_; refine tZ 2 ?_; refine tZ 3 ?_; refine tZ 4 ?_; refine tZ 5 ?_; refine tZ 6 ?_; refine tZ 7 ?_; refine tZ 8 ?_; refine tZ 9 ?_; refine tZ 10 ?_; refine tZ 11 ?_; refine tZ 12 ?_; refine tZ 13 ?_
  generalize (World.drew _) = W3 at h2 hHeld ⊢
  obtain ⟨c0, c1, c2, c3⟩ := Hold.rdv h2
  have f2 := h2.frozen (.head _) 2
  have f3 := h2.frozen (.head _) 3
  have h3 : Hold w [(g7, #[.int .i64 L.1, .int .i64 L.2, .int .i64 X, .int .i64 H.2], 34), (g0, #[.int .i64 L.1, .int .i64 L.2, .int .i64 H.1, .int .i64 H.2], 34)] (W3.setCell ⟨g7, 2, none⟩ (.int .i64 X)) := h2.set 2 (.int .i64 X)
  refine wpAnyH_ready (rs := [14]) (by decide +kernel) (by simp) ?_
  refine AllReadyH.cons rfl (fun K hK => ?_) AllReadyH.nil
  (try simp only [jA, jB, jC])
  go_simp
  refine hK.out _ _ ?_ (fun hHeld => ?_)
  focus ((try dsimp only); exact Hold.rdw h3; done)
  clear hK K
  (try simp only [Act.put, jA, jB, jC, jD, jE, jF])
  clear c0 c1 c2 c3 f2 f3 h2
  generalize (World.setCell _ _ _) = W4 at h3 hHeld ⊢
  refine tZ 15 ?_; refine tZ 16 ?_
  obtain ⟨c0, c1, c2, c3⟩ := Hold.rdv h3
  have f2 := h3.frozen (.head _) 2
  have f3 := h3.frozen (.head _) 3
  have h4 : Hold w [(g7, #[.int .i64 L.1, .int .i64 L.2, .int .i64 X, .int .i64 Y], 34), (g0, #[.int .i64 L.1, .int .i64 L.2, .int .i64 H.1, .int .i64 H.2], 34)] (W4.setCell ⟨g7, 3, none⟩ (.int .i64 Y)) := h3.set 3 (.int .i64 Y)
  refine wpAnyH_ready (rs := [17]) (by decide +kernel) (by simp) ?_
  refine AllReadyH.cons rfl (fun K hK => ?_) AllReadyH.nil
  (try simp only [jA, jB, jC])
  go_simp
  refine hK.out _ _ ?_ (fun hHeld => ?_)
  focus ((try dsimp only); exact Hold.rdw h4; done)
  clear hK K
  (try simp only [Act.put, jA, jB, jC, jD, jE, jF])
  clear c0 c1 c2 c3 f2 f3 h3
  generalize (World.setCell _ _ _) = W5 at h4 hHeld ⊢
  refine wpAnyH_done (by decide +kernel) ?_ _
  clear hHeld hx hy hm2 hn2 _hm0 _hm1 _hn0 _hn1
  obtain ⟨c0, c1, c2, c3⟩ := Hold.rdw h4
  go_wp2_with fail
  go_at_call 13
  refine (HS1.out _).mono ?_
  rintro e w' ⟨v, rfl, HR⟩
  have HQ2 := h4.on HR.1
  obtain ⟨A, ca, rfl, -, -⟩ := HR.items
  clear h4 HR c0 c1 c2 c3
  obtain ⟨c0, c1, c2, c3⟩ := Hold.rdv HQ2
  go_wp2_with fail
  go_at_call 13
  refine (HS2.out _).mono ?_
  rintro e w' ⟨v, rfl, HR⟩
  have HQ3 := HQ2.on HR.1
  obtain ⟨B, cb, rfl, -, -⟩ := HR.items
  clear HQ2 HR c0 c1 c2 c3
  go_wp2_with fail
  go_at_call 11
  refine (grid_answers _).mono ?_
  rintro e w' ⟨rfl, hB⟩
  have HQ4 := HQ3.on hB
  clear HQ3 hB
  go_wp2_with fail
  go_at_call 11
  refine (grid_answers _).mono ?_
  rintro e w' ⟨rfl, hB⟩
  have HB := Lib.hid (HQ4.on hB).1
  clear HQ4 hB
  go_wp2
  go_ret
  exact ⟨rfl, HG0.out ▸ HB.out⟩
set_option maxRecDepth 100000 in
set_option maxHeartbeats 8000000 in
theorem walk_bad2 (L H : Int × Int) (m n X Y : Int) (_hm0 : 0 ≤ m) (_hm1 : m ≤ 4294967295) (_hn0 : 0 ≤ n) (_hn1 : n ≤ 4294967295) (hx : IntKind.i64.wrap (H.1 + m) = X) (hy : IntKind.i64.wrap (H.2 + n) = Y) (he : wnE L H = 0) (hf : wnE L (X, Y) ≠ 0) (w : World) :
    Calls Try.prog 7 #[.agg #[.int .i64 L.1, .int .i64 L.2, .int .i64 H.1, .int .i64 H.2], .int .u32 m, .int .u32 n] w fun e w' => e = .returned (.bool true) ∧ Below w.heap.size w w' := by
  have hs := fun W => span_any L H W
  rw [he] at hs
  have HS1 := Lib.hid hs
  have HS2 := Lib.hid (fun W => span_any L (X, Y) W)
  have e0 : (wnE L (X, Y) == 0) = false := by simpa using hf
  clear he hf hs
  generalize wnE L (X, Y) = y at *
  generalize spanL L H = l at *
  generalize spanL L (X, Y) = l' at *
  have hm2 : IntKind.i64.wrap m = m := IntWalk.i64_in _ (by omega)
  have hn2 : IntKind.i64.wrap n = n := IntWalk.i64_in _ (by omega)
  have HQ := (Hold.refl w).new #[.int .i64 L.1, .int .i64 L.2, .int .i64 H.1, .int .i64 H.2] 34
  go_enter Try.func7, Try.ntmps7
  go_upto_region 1 with (fail)
  generalize (World.alloc _ _) = W1 at HQ ⊢
  obtain ⟨g0, hg0⟩ : ∃ g, w.heap.size = g := ⟨_, rfl⟩
  rw [hg0] at HQ ⊢
  have HG0 := Lib.hid hg0
  clear hg0
  obtain ⟨c0, c1, c2, c3⟩ := HQ.win (.head _)
  go_upto_region 2 with (fail)
  have HQ1 := HQ.new #[.int .i64 L.1, .int .i64 L.2, .int .i64 H.1, .int .i64 H.2] 34
  clear HQ c0 c1 c2 c3
  generalize (World.alloc _ _) = W2 at HQ1 ⊢
  generalize W1.heap.size = g7 at HQ1 ⊢
  have h2 := HQ1.drew
  clear HQ1
  refine wp_region_held_drew (S := fun W => W.cell? ⟨g0, 0, none⟩ = some (.int .i64 L.1) ∧ W.cell? ⟨g0, 1, none⟩ = some (.int .i64 L.2) ∧ W.cell? ⟨g0, 2, none⟩ = some (.int .i64 H.1) ∧ W.cell? ⟨g0, 3, none⟩ = some (.int .i64 H.2)) (by kernel_rfl) ?_ (fun hHeld => ?_)
  · (try dsimp only)
    exact Hold.rdw h2
  refine tZ 0 ?_; refine tZ 1 ?_; refine tZ 2 ?_; refine tZ 3 ?_; refine tZ 4 ?_; refine tZ 5 ?_; refine tZ 6 ?_; refine tZ 7 ?_; refine tZ 8 ?_; refine tZ 9 ?_; refine tZ 10 ?_; refine tZ 11 ?_; refine tZ 12 ?_; refine tZ 13 ?_
  generalize (World.drew _) = W3 at h2 hHeld ⊢
  obtain ⟨c0, c1, c2, c3⟩ := Hold.rdv h2
  have f2 := h2.frozen (.head _) 2
  have f3 := h2.frozen (.head _) 3
  have h3 : Hold w [(g7, #[.int .i64 L.1, .int .i64 L.2, .int .i64 X, .int .i64 H.2], 34), (g0, #[.int .i64 L.1, .int .i64 L.2, .int .i64 H.1, .int .i64 H.2], 34)] (W3.setCell ⟨g7, 2, none⟩ (.int .i64 X)) := h2.set 2 (.int .i64 X)
  refine wpAnyH_ready (rs := [14]) (by decide +kernel) (by simp) ?_
  refine AllReadyH.cons rfl (fun K hK => ?_) AllReadyH.nil
  (try simp only [jA, jB, jC])
  go_simp
  refine hK.out _ _ ?_ (fun hHeld => ?_)
  focus ((try dsimp only); exact Hold.rdw h3; done)
  clear hK K
  (try simp only [Act.put, jA, jB, jC, jD, jE, jF])
  clear c0 c1 c2 c3 f2 f3 h2
  generalize (World.setCell _ _ _) = W4 at h3 hHeld ⊢
  refine tZ 15 ?_; refine tZ 16 ?_
  obtain ⟨c0, c1, c2, c3⟩ := Hold.rdv h3
  have f2 := h3.frozen (.head _) 2
  have f3 := h3.frozen (.head _) 3
  have h4 : Hold w [(g7, #[.int .i64 L.1, .int .i64 L.2, .int .i64 X, .int .i64 Y], 34), (g0, #[.int .i64 L.1, .int .i64 L.2, .int .i64 H.1, .int .i64 H.2], 34)] (W4.setCell ⟨g7, 3, none⟩ (.int .i64 Y)) := h3.set 3 (.int .i64 Y)
  refine wpAnyH_ready (rs := [17]) (by decide +kernel) (by simp) ?_
  refine AllReadyH.cons rfl (fun K hK => ?_) AllReadyH.nil
  (try simp only [jA, jB, jC])
  go_simp
  refine hK.out _ _ ?_ (fun hHeld => ?_)
  focus ((try dsimp only); exact Hold.rdw h4; done)
  clear hK K
  (try simp only [Act.put, jA, jB, jC, jD, jE, jF])
  clear c0 c1 c2 c3 f2 f3 h3
  generalize (World.setCell _ _ _) = W5 at h4 hHeld ⊢
  refine wpAnyH_done (by decide +kernel) ?_ _
  clear hHeld hx hy hm2 hn2 _hm0 _hm1 _hn0 _hn1
  obtain ⟨c0, c1, c2, c3⟩ := Hold.rdw h4
  go_wp2_with fail
  go_at_call 13
  refine (HS1.out _).mono ?_
  rintro e w' ⟨v, rfl, HR⟩
  have HQ2 := h4.on HR.1
  obtain ⟨A, ca, rfl, -, -⟩ := HR.items
  clear h4 HR c0 c1 c2 c3
  obtain ⟨c0, c1, c2, c3⟩ := Hold.rdv HQ2
  go_wp2_with fail
  go_at_call 13
  refine (HS2.out _).mono ?_
  rintro e w' ⟨v, rfl, HR⟩
  have HQ3 := HQ2.on HR.1
  obtain ⟨B, cb, rfl, -, -⟩ := HR.items
  clear HQ2 HR c0 c1 c2 c3
  go_wp2_with fail
  go_at_call 11
  refine (grid_answers _).mono ?_
  rintro e w' ⟨rfl, hB⟩
  have HQ4 := HQ3.on hB
  clear HQ3 hB
  go_wp2_with fail
  go_at_call 11
  refine (grid_answers _).mono ?_
  rintro e w' ⟨rfl, hB⟩
  have HB := Lib.hid (HQ4.on hB).1
  clear HQ4 hB
  go_wp2
  go_ret
  exact ⟨rfl, HG0.out ▸ HB.out⟩
set_option maxRecDepth 100000 in
set_option maxHeartbeats 20000000 in
theorem walk_good (L H : Int × Int) (m n X Y : Int) (_hm0 : 0 ≤ m) (_hm1 : m ≤ 4294967295) (_hn0 : 0 ≤ n) (_hn1 : n ≤ 4294967295) (hx : IntKind.i64.wrap (H.1 + m) = X) (hy : IntKind.i64.wrap (H.2 + n) = Y) (he : wnE L H = 0) (hf : wnE L (X, Y) = 0) (w : World) :
    Calls Try.prog 7 #[.agg #[.int .i64 L.1, .int .i64 L.2, .int .i64 H.1, .int .i64 H.2], .int .u32 m, .int .u32 n] w fun e w' => e = .returned (.bool true) ∧ Below w.heap.size w w' := by
  have HS1 := Lib.hid (fun W => span_good L H he W)
  have HS2 := Lib.hid (fun W => span_good L (X, Y) hf W)
  obtain ⟨hg1, hl1, hl2⟩ := wnE_zero.1 he
  obtain ⟨hg2, hl3, hl4⟩ := wnE_zero.1 hf
  have hH := gd_iff.1 (two_good hg1).2
  have hLN1 := spL_len_le (gd_iff.1 (two_good hg1).1) hH
  have hLN2 := spL_len_le (gd_iff.1 (two_good hg2).1) (gd_iff.1 (two_good hg2).2)
  unfold Gd at hH
  have hX : X = H.1 + m := by rw [← hx]; exact IntWalk.i64_in _ (by omega)
  have hY : Y = H.2 + n := by rw [← hy]; exact IntWalk.i64_in _ (by omega)
  have HSB : Hid ((spL L H).Sublist (spL L (X, Y))) := spL_sub (by rw [hX]; show H.1 ≤ H.1 + m; omega) (by rw [hY]; show H.2 ≤ H.2 + n; omega)
  have HLX := Lib.hid (spL_lex L (X, Y))
  have HPO := Lib.hid (spL_pos hl1 hl2)
  have HLN := Lib.hid (And.intro hLN1 hLN2)
  clear he hf hg1 hl1 hl2 hg2 hl3 hl4 hH hLN1 hLN2 hX hY
  generalize spL L H = l at *
  generalize spL L (X, Y) = l' at *
  have hm2 : IntKind.i64.wrap m = m := IntWalk.i64_in _ (by omega)
  have hn2 : IntKind.i64.wrap n = n := IntWalk.i64_in _ (by omega)
  have HQ := (Hold.refl w).new #[.int .i64 L.1, .int .i64 L.2, .int .i64 H.1, .int .i64 H.2] 34
  go_enter Try.func7, Try.ntmps7
  go_upto_region 1 with (fail)
  generalize (World.alloc _ _) = W1 at HQ ⊢
  obtain ⟨g0, hg0⟩ : ∃ g, w.heap.size = g := ⟨_, rfl⟩
  rw [hg0] at HQ ⊢
  have HG0 := Lib.hid hg0
  clear hg0
  obtain ⟨c0, c1, c2, c3⟩ := HQ.win (.head _)
  go_upto_region 2 with (fail)
  have HQ1 := HQ.new #[.int .i64 L.1, .int .i64 L.2, .int .i64 H.1, .int .i64 H.2] 34
  clear HQ c0 c1 c2 c3
  generalize (World.alloc _ _) = W2 at HQ1 ⊢
  generalize W1.heap.size = g7 at HQ1 ⊢
  have h2 := HQ1.drew
  clear HQ1
  refine wp_region_held_drew (S := fun W => W.cell? ⟨g0, 0, none⟩ = some (.int .i64 L.1) ∧ W.cell? ⟨g0, 1, none⟩ = some (.int .i64 L.2) ∧ W.cell? ⟨g0, 2, none⟩ = some (.int .i64 H.1) ∧ W.cell? ⟨g0, 3, none⟩ = some (.int .i64 H.2)) (by kernel_rfl) ?_ (fun hHeld => ?_)
  · (try dsimp only)
    exact Hold.rdw h2
  refine tZ 0 ?_; refine tZ 1 ?_; refine tZ 2 ?_; refine tZ 3 ?_; refine tZ 4 ?_; refine tZ 5 ?_; refine tZ 6 ?_; refine tZ 7 ?_; refine tZ 8 ?_; refine tZ 9 ?_; refine tZ 10 ?_; refine tZ 11 ?_; refine tZ 12 ?_; refine tZ 13 ?_
  generalize (World.drew _) = W3 at h2 hHeld ⊢
  obtain ⟨c0, c1, c2, c3⟩ := Hold.rdv h2
  have f2 := h2.frozen (.head _) 2
  have f3 := h2.frozen (.head _) 3
  have h3 : Hold w [(g7, #[.int .i64 L.1, .int .i64 L.2, .int .i64 X, .int .i64 H.2], 34), (g0, #[.int .i64 L.1, .int .i64 L.2, .int .i64 H.1, .int .i64 H.2], 34)] (W3.setCell ⟨g7, 2, none⟩ (.int .i64 X)) := h2.set 2 (.int .i64 X)
  refine wpAnyH_ready (rs := [14]) (by decide +kernel) (by simp) ?_
  refine AllReadyH.cons rfl (fun K hK => ?_) AllReadyH.nil
  (try simp only [jA, jB, jC])
  go_simp
  refine hK.out _ _ ?_ (fun hHeld => ?_)
  focus ((try dsimp only); exact Hold.rdw h3; done)
  clear hK K
  (try simp only [Act.put, jA, jB, jC, jD, jE, jF])
  clear c0 c1 c2 c3 f2 f3 h2
  generalize (World.setCell _ _ _) = W4 at h3 hHeld ⊢
  refine tZ 15 ?_; refine tZ 16 ?_
  obtain ⟨c0, c1, c2, c3⟩ := Hold.rdv h3
  have f2 := h3.frozen (.head _) 2
  have f3 := h3.frozen (.head _) 3
  have h4 : Hold w [(g7, #[.int .i64 L.1, .int .i64 L.2, .int .i64 X, .int .i64 Y], 34), (g0, #[.int .i64 L.1, .int .i64 L.2, .int .i64 H.1, .int .i64 H.2], 34)] (W4.setCell ⟨g7, 3, none⟩ (.int .i64 Y)) := h3.set 3 (.int .i64 Y)
  refine wpAnyH_ready (rs := [17]) (by decide +kernel) (by simp) ?_
  refine AllReadyH.cons rfl (fun K hK => ?_) AllReadyH.nil
  (try simp only [jA, jB, jC])
  go_simp
  refine hK.out _ _ ?_ (fun hHeld => ?_)
  focus ((try dsimp only); exact Hold.rdw h4; done)
  clear hK K
  (try simp only [Act.put, jA, jB, jC, jD, jE, jF])
  clear c0 c1 c2 c3 f2 f3 h3
  generalize (World.setCell _ _ _) = W5 at h4 hHeld ⊢
  refine wpAnyH_done (by decide +kernel) ?_ _
  clear hHeld hx hy hm2 hn2 _hm0 _hm1 _hn0 _hn1
  obtain ⟨c0, c1, c2, c3⟩ := Hold.rdw h4
  go_wp2_with fail
  go_at_call 13
  refine (HS1.out _).mono ?_
  rintro e w' ⟨v, rfl, HR⟩
  have HQ2 := h4.on HR.1
  obtain ⟨A, ca, rfl, hi, -⟩ := HR.items
  have HI2 := Lib.hid hi
  clear h4 HR hi c0 c1 c2 c3
  obtain ⟨c0, c1, c2, c3⟩ := Hold.rdv HQ2
  go_wp2_with fail
  go_at_call 13
  refine (HS2.out _).mono ?_
  rintro e w' ⟨v, rfl, HR⟩
  have HQ3 := HQ2.on HR.1
  have HI3 := Lib.hid (HI2.out.on HR.1)
  obtain ⟨B, cb, rfl, hi, -⟩ := HR.items
  have HJ3 := Lib.hid hi
  clear HQ2 HR hi c0 c1 c2 c3 HI2
  go_wp2_with fail
  go_at_call 11
  refine (grid_answers _).mono ?_
  rintro e w' ⟨rfl, hB⟩
  have HQ4 := Lib.hid (HQ3.on hB).1
  have HI4 := Lib.hid (HI3.out.on hB)
  have HJ4 := Lib.hid (HJ3.out.on hB)
  clear HQ3 HI3 HJ3 hB HS1 HS2
  have hpo : 0 < l.length := HPO.out
  have hle : l.length ≤ l'.length := HSB.out.length_le
  have hl81 : l'.length ≤ 81 := HLN.out.2
  have p0 : (0 : Int) < (l.length : Int) := by omega
  have p1 : (l'.length : Int) ≤ 81 := by omega
  have p2 : (l.length : Int) ≤ 81 := by omega
  go_wp2_with fail
  go_loopg [12] (l'.length - 1) (fun gg s12 wr => ∃ k : Nat, 0 < k ∧ k ≤ l'.length ∧ gg = l'.length - k ∧ s12 = .int .i64 k ∧ Below w'.heap.size w' wr)
  case atStart => exact ⟨1, by omega, by omega, rfl, rfl, Below.refl _ _⟩
  case round =>
    obtain ⟨k, hk0, hk, hgk, rfl, HB⟩ := hrel
    have HGK := Lib.hid hgk
    clear hgk
    by_cases hlt : k < l'.length
    · obtain ⟨j, hj⟩ : ∃ j, k = j + 1 := ⟨k - 1, by omega⟩
      have hjl : j < l'.length := by omega
      have hLP : LexP l'[j] l'[k] := LexP.at HLX.out (by omega) hlt
      obtain ⟨ad, eA, -, d0, d1⟩ := cells_at (HJ4.out.on HB) hjl
      obtain ⟨bd, eB, -, d2, d3⟩ := cells_at (HJ4.out.on HB) hlt
      rw [eA] at eB
      obtain rfl := Option.some.inj eB
      subst eA
      have b0 : (0 : Int) ≤ (k : Int) := by omega
      have b1 : (k : Int) < (l'.length : Int) := by omega
      have b2 : (0 : Int) ≤ (j : Int) := by omega
      have b3 : (j : Int) < (l'.length : Int) := by omega
      have z1 : IntKind.i64.wrap ((k : Int) - 1) = (j : Int) := by rw [IntWalk.i64_in _ (by omega)]; omega
      have z2 : (k : Int) - 1 = (j : Int) := by omega
      have HBX := Lib.hid HB
      have HK : Hid ((k : Int) + 1 = ((k + 1 : Nat) : Int)) := by unfold Hid; omega
      have HJK := Lib.hid hj
      clear HB hj hk0
      generalize l'[j] = a at *
      generalize l'[k] = b at *
      rcases hLP with h | ⟨h, h'⟩
      · have q1 : decide (b.1 < a.1) = false := decide_eq_false (by omega)
        have q2 : decide (a.1 = b.1) = false := decide_eq_false (by omega)
        have q3 : (a.1 == b.1) = false := by rw [beq_eq_false_iff_ne]; omega
        go_upto_region 10 with (fail)
        go_quiet (fail)
        go_wp2_with fail
        go_roundg (l'.length - (k + 1))
        case measure => have := HGK.out; omega
        case rel => exact ⟨k + 1, by omega, by omega, rfl, by go_num, bel_drewN HBX.out _⟩
      · obtain ⟨a1, a2⟩ := a
        obtain ⟨b1', b2'⟩ := b
        dsimp only at *
        subst h
        have q1 : decide (a1 < a1) = false := decide_eq_false (by omega)
        have q2 : decide (b2' ≤ a2) = false := decide_eq_false (by omega)
        go_upto_region 10 with (fail)
        go_quiet (fail)
        go_wp2_with fail
        go_roundg (l'.length - (k + 1))
        case measure => have := HGK.out; omega
        case rel => exact ⟨k + 1, by omega, by omega, rfl, by go_num, bel_drewN HBX.out _⟩
    · obtain rfl : k = l'.length := by omega
      have a3 : ¬ ((l'.length : Int) < (l'.length : Int)) := by omega
      have HI5 := Lib.hid (HI4.out.on HB)
      have HJ5 := Lib.hid (HJ4.out.on HB)
      have HB5 := Lib.hid (HQ4.out.trans (HB.mono HQ4.out.size))
      clear HB HI4 HJ4 HQ4 hk hk0
      go_wp2_with fail
      go_loopg [13, 14] l'.length (fun gg s13 s14 wz => ∃ k i : Nat, k ≤ l.length ∧ i ≤ l'.length ∧ gg = l'.length - i ∧ s13 = .int .i64 k ∧ s14 = .int .i64 i ∧ Hid ((l.drop k).Sublist (l'.drop i)) ∧ Below wr.heap.size wr wz)
      case atStart => exact ⟨0, 0, by omega, by omega, rfl, rfl, rfl, HSB, Below.refl _ _⟩
      case round =>
        obtain ⟨k, i, hk, hi, hgi, rfl, rfl, HSU, HB⟩ := hrel
        have HGI := Lib.hid hgi
        clear hgi a3
        by_cases hil : i < l'.length
        · by_cases hkl : k < l.length
          · obtain ⟨ad, eA, -, d0, d1⟩ := cells_at (HI5.out.on HB) hkl
            obtain ⟨bd, eB, -, d2, d3⟩ := cells_at (HJ5.out.on HB) hil
            have hst := sub_step HSU.out hkl hil
            subst eA eB
            have b0 : (0 : Int) ≤ (k : Int) := by omega
            have b1 : (k : Int) < (l.length : Int) := by omega
            have b2 : (0 : Int) ≤ (i : Int) := by omega
            have b3 : (i : Int) < (l'.length : Int) := by omega
            have HBX := Lib.hid HB
            clear HB HSU
            generalize l[k] = a at *
            generalize l'[i] = b at *
            by_cases heq : b = a
            · subst heq
              have HN := Lib.hid (hst.1 rfl)
              clear hst
              go_upto_region 16 with (fail)
              go_quiet (fail)
              go_wp2_with fail
              go_roundg (l'.length - (i + 1))
              case measure => have := HGI.out; omega
              case rel => exact ⟨k + 1, i + 1, by omega, by omega, rfl, by go_num, by go_num, HN, bel_drewN HBX.out _⟩
            · have HN := Lib.hid (hst.2 heq)
              clear hst
              rcases ne_parts heq with h | ⟨h, h'⟩
              · clear heq
                go_upto_region 16 with (fail)
                go_quiet (fail)
                go_wp2_with fail
                go_roundg (l'.length - (i + 1))
                case measure => have := HGI.out; omega
                case rel => exact ⟨k, i + 1, by omega, by omega, rfl, rfl, by go_num, HN, bel_drewN HBX.out _⟩
              · clear heq
                go_upto_region 16 with (fail)
                go_quiet (fail)
                go_wp2_with fail
                go_roundg (l'.length - (i + 1))
                case measure => have := HGI.out; omega
                case rel => exact ⟨k, i + 1, by omega, by omega, rfl, rfl, by go_num, HN, bel_drewN HBX.out _⟩
          · obtain rfl : k = l.length := by omega
            have b2 : (0 : Int) ≤ (i : Int) := by omega
            have b3 : (i : Int) < (l'.length : Int) := by omega
            have a3 : ¬ ((l.length : Int) < (l.length : Int)) := by omega
            have HB9 := Lib.hid (HB5.out.trans (HB.mono HB5.out.size))
            clear HB HSU
            go_wp2
            go_ret
            exact ⟨rfl, HG0.out ▸ HB9.out⟩
        · obtain rfl := sub_end HSU.out (by omega) hk
          obtain rfl : i = l'.length := by omega
          have a3 : ¬ ((l'.length : Int) < (l'.length : Int)) := by omega
          have HB9 := Lib.hid (HB5.out.trans (HB.mono HB5.out.size))
          clear HB HSU
          go_wp2
          go_ret
          exact ⟨rfl, HG0.out ▸ HB9.out⟩
theorem law_walk (L H : Int × Int) (m n : Int) (hm : 0 ≤ m ∧ m ≤ 4294967295) (hn : 0 ≤ n ∧ n ≤ 4294967295) (w : World) :
    Calls Try.prog 7 #[.agg #[.int .i64 L.1, .int .i64 L.2, .int .i64 H.1, .int .i64 H.2], .int .u32 m, .int .u32 n] w fun e w' => e = .returned (.bool true) ∧ Below w.heap.size w w' := by
  by_cases he : wnE L H = 0
  · by_cases hf : wnE L (IntKind.i64.wrap (H.1 + m), IntKind.i64.wrap (H.2 + n)) = 0
    · exact walk_good L H m n _ _ hm.1 hm.2 hn.1 hn.2 rfl rfl he hf w
    · exact walk_bad2 L H m n _ _ hm.1 hm.2 hn.1 hn.2 rfl rfl he hf w
  · exact walk_bad1 L H m n _ _ hm.1 hm.2 hn.1 hn.2 rfl rfl he w
end Go.Proofs.Ytfihddpidaidiaa.gridGrows
