/- The law GridSteps: a point that is moved by the size of a cell, and by less. -/
import Derived.Test.YtfihddpidaidiaaGridA
namespace Go.Proofs.Ytfihddpidaidiaa.gridSteps
open Go.RowKit

theorem rest_of {m : Int} (h : 0 ≤ m ∧ m ≤ 4294967295) : ∃ k : Int, m.tmod 268435456 = k ∧ m % 268435456 = k ∧ IntKind.u32.wrap k = k ∧ IntKind.i64.wrap k = k ∧ 0 ≤ k ∧ k < 268435456 := by
  refine ⟨m % 268435456, Int.tmod_eq_emod_of_nonneg h.1, rfl, ?_, IntWalk.i64_in _ (by omega), by omega, by omega⟩
  rw [IntKind.wrap_u32]; omega
set_option maxRecDepth 100000 in
set_option maxHeartbeats 4000000 in
theorem walk_bad (p : Int × Int) (m k x1 y2 : Int) (_hm0 : 0 ≤ m) (_hm1 : m ≤ 4294967295) (_hk0 : 0 ≤ k) (_hk1 : k < 268435456) (hk2 : m.tmod 268435456 = k) (_hk3 : m % 268435456 = k) (_hk4 : IntKind.u32.wrap k = k) (hk5 : IntKind.i64.wrap k = k) (hx1 : IntKind.i64.wrap (p.1 + 268435456) = x1) (hy2 : IntKind.i64.wrap (p.2 + k) = y2) (hp : gd p = false) (w : World) :
    Calls Try.prog 8 #[.agg #[.int .i64 p.1, .int .i64 p.2], .int .u32 m] w fun e w' => e = .returned (.bool true) ∧ Below w.heap.size w w' := by
  have hgo := fun W t => ref_good_one p 1 W t
  rw [show gdL [p] = false by simp [gdL, hp]] at hgo
  have HGO := Lib.hid hgo
  clear hgo hp
  have HQ := (Hold.refl w).new #[.int .i64 p.1, .int .i64 p.2] 23
  go_enter Try.func8, Try.ntmps8
  go_upto_region 1 with (fail)
  generalize (World.alloc _ _) = W1 at HQ ⊢
  obtain ⟨g0, hg0⟩ : ∃ g, w.heap.size = g := ⟨_, rfl⟩
  rw [hg0] at HQ ⊢
  have HG0 := Lib.hid hg0
  clear hg0
  obtain ⟨c0, c1⟩ := HQ.pt (.head _)
  go_upto_region 3 with (fail)
  have HQ1 := HQ.new #[.int .i64 x1, .int .i64 p.2] 23
  clear c0 c1 HQ
  generalize (World.alloc _ _) = W2 at HQ1 ⊢
  generalize W1.heap.size = g6 at HQ1 ⊢
  obtain ⟨c0, c1, c2, c3⟩ := HQ1.rd2
  go_upto_region 4 with (fail)
  have HQ2 := HQ1.new #[.int .i64 p.1, .int .i64 y2] 23
  clear c0 c1 c2 c3 HQ1
  generalize (World.alloc _ _) = W3 at HQ2 ⊢
  generalize W2.heap.size = g7 at HQ2 ⊢
  obtain ⟨c0, c1, -, -, -, -⟩ := HQ2.rd3
  go_wp2_with fail
  go_at_call 11
  refine (grid_answers _).mono ?_
  rintro e w' ⟨rfl, hB⟩
  have HQ3 := HQ2.on hB
  clear hB HQ2 c0 c1
  obtain ⟨c0, c1, -, -, -, -⟩ := HQ3.rd3
  go_wp2_with fail
  go_at_call 10
  refine (HGO.out _ _).mono ?_
  rintro e w' ⟨rfl, hB⟩
  have HQ4 := (HQ3.alloc _).on (hB.mono (by simp only [World.size_alloc]; omega))
  clear hB c0 c1 HQ3
  go_wp2_with fail
  go_at_call 11
  refine (grid_answers _).mono ?_
  rintro e w' ⟨rfl, hB⟩
  have HB := Lib.hid (HQ4.on hB).1
  clear hB HQ4
  go_wp2
  go_ret
  exact ⟨rfl, HG0.out ▸ HB.out⟩
section
variable {w W : World} {g0 g6 g7 g8 g10 g12 : Nat} {x0 y0 x6 y6 x7 y7 x8 y8 x10 y10 x12 y12 : Value} {t0 t6 t7 t8 t10 t12 : TypeId}
theorem Hold.six (h : Hold w [(g12, #[x12, y12], t12), (g10, #[x10, y10], t10), (g8, #[x8, y8], t8), (g7, #[x7, y7], t7), (g6, #[x6, y6], t6), (g0, #[x0, y0], t0)] W) : W.cell? ⟨g8, 0, none⟩ = some x8 ∧ W.cell? ⟨g8, 1, none⟩ = some y8 ∧ W.cell? ⟨g10, 0, none⟩ = some x10 ∧ W.cell? ⟨g10, 1, none⟩ = some y10 ∧ W.cell? ⟨g12, 0, none⟩ = some x12 ∧ W.cell? ⟨g12, 1, none⟩ = some y12 :=
  ⟨(h.pt (.tail _ (.tail _ (.head _)))).1, (h.pt (.tail _ (.tail _ (.head _)))).2, (h.pt (.tail _ (.head _))).1, (h.pt (.tail _ (.head _))).2, (h.pt (.head _)).1, (h.pt (.head _)).2⟩
end
set_option maxRecDepth 100000 in
set_option maxHeartbeats 8000000 in
theorem walk_good (p : Int × Int) (m k x1 y2 : Int) (_hm0 : 0 ≤ m) (_hm1 : m ≤ 4294967295) (_hk0 : 0 ≤ k) (_hk1 : k < 268435456) (hk2 : m.tmod 268435456 = k) (_hk3 : m % 268435456 = k) (_hk4 : IntKind.u32.wrap k = k) (hk5 : IntKind.i64.wrap k = k) (hx1 : IntKind.i64.wrap (p.1 + 268435456) = x1) (hy2 : IntKind.i64.wrap (p.2 + k) = y2)
    (a b c : Int × Int) (f g : Int) (hp : gd p = true) (hA : Hid (∀ W, Calls Try.prog 9 #[.agg #[.int .i64 p.1, .int .i64 p.2]] W fun e w' => e = .returned (.tuple #[.agg #[.int .i64 a.1, .int .i64 a.2], .int .i64 0]) ∧ Below W.heap.size W w'))
    (hX : Hid (∀ W, Calls Try.prog 9 #[.agg #[.int .i64 x1, .int .i64 p.2]] W fun e w' => e = .returned (.tuple #[.agg #[.int .i64 b.1, .int .i64 b.2], .int .i64 f]) ∧ Below W.heap.size W w'))
    (hY : Hid (∀ W, Calls Try.prog 9 #[.agg #[.int .i64 p.1, .int .i64 y2]] W fun e w' => e = .returned (.tuple #[.agg #[.int .i64 c.1, .int .i64 c.2], .int .i64 g]) ∧ Below W.heap.size W w'))
    (hF : Hid (f = 3 ∨ (f = 0 ∧ b.1 = a.1 + 1 ∧ b.2 = a.2))) (hG : Hid (g = 3 ∨ (g = 0 ∧ c.1 = a.1 ∧ c.2 = a.2) ∨ (g = 0 ∧ c.1 = a.1 ∧ c.2 = a.2 + 1 ∧ ¬ a.2 + 1 = a.2))) (hW : Hid (IntKind.i64.wrap (a.1 + 1) = a.1 + 1 ∧ IntKind.i64.wrap (a.2 + 1) = a.2 + 1)) (w : World) :
    Calls Try.prog 8 #[.agg #[.int .i64 p.1, .int .i64 p.2], .int .u32 m] w fun e w' => e = .returned (.bool true) ∧ Below w.heap.size w w' := by
  have hgo := fun W t => ref_good_one p 1 W t
  rw [show gdL [p] = true by simp [gdL, hp]] at hgo
  have HGO := Lib.hid hgo
  clear hgo hp
  have HQ := (Hold.refl w).new #[.int .i64 p.1, .int .i64 p.2] 23
  go_enter Try.func8, Try.ntmps8
  go_upto_region 1 with (fail)
  generalize (World.alloc _ _) = W1 at HQ ⊢
  obtain ⟨g0, hg0⟩ : ∃ g, w.heap.size = g := ⟨_, rfl⟩
  rw [hg0] at HQ ⊢
  have HG0 := Lib.hid hg0
  clear hg0
  obtain ⟨c0, c1⟩ := HQ.pt (.head _)
  go_upto_region 3 with (fail)
  have HQ1 := HQ.new #[.int .i64 x1, .int .i64 p.2] 23
  clear c0 c1 HQ
  generalize (World.alloc _ _) = W2 at HQ1 ⊢
  generalize W1.heap.size = g6 at HQ1 ⊢
  obtain ⟨c0, c1, c2, c3⟩ := HQ1.rd2
  go_upto_region 4 with (fail)
  have HQ2 := HQ1.new #[.int .i64 p.1, .int .i64 y2] 23
  clear c0 c1 c2 c3 HQ1
  generalize (World.alloc _ _) = W3 at HQ2 ⊢
  generalize W2.heap.size = g7 at HQ2 ⊢
  clear hx1 hy2 hk2 _hk3 _hk4 hk5 _hk0 _hk1 _hm0 _hm1
  obtain ⟨c0, c1, -, -, -, -⟩ := HQ2.rd3
  go_wp2_with fail
  go_at_call 11
  refine (grid_answers _).mono ?_
  rintro e w' ⟨rfl, hB⟩
  have HQ3 := HQ2.on hB
  clear hB HQ2 c0 c1
  obtain ⟨c0, c1, -, -, -, -⟩ := HQ3.rd3
  go_wp2_with fail
  go_at_call 10
  refine (HGO.out _ _).mono ?_
  rintro e w' ⟨rfl, hB⟩
  have HQ4 := (HQ3.alloc _).on (hB.mono (by simp only [World.size_alloc]; omega))
  clear hB c0 c1 HQ3
  obtain ⟨c0, c1, -, -, -, -⟩ := HQ4.rd3
  go_upto_region 7 with (go_at_call 9; go_must ((with_reducible refine (hA.out _).mono ?_); rintro e w' ⟨rfl, hB⟩; have HQ5 := (HQ4.on hB).new #[.int .i64 a.1, .int .i64 a.2] 24; clear hB c0 c1 HQ4))
  generalize (World.alloc _ _) = W5 at HQ5 ⊢
  generalize (World.heap _).size = g8 at HQ5 ⊢
  obtain ⟨-, -, c0, c1, -, -⟩ := HQ5.tail.rd3
  go_upto_region 8 with (go_at_call 9; go_must ((with_reducible refine (hX.out _).mono ?_); rintro e w' ⟨rfl, hB⟩; have HQ6 := (HQ5.on hB).new #[.int .i64 b.1, .int .i64 b.2] 24; clear hB c0 c1 HQ5))
  generalize (World.alloc _ _) = W6 at HQ6 ⊢
  generalize (World.heap _).size = g10 at HQ6 ⊢
  obtain ⟨-, -, -, -, c0, c1⟩ := HQ6.tail.tail.rd3
  go_upto_region 9 with (go_at_call 9; go_must ((with_reducible refine (hY.out _).mono ?_); rintro e w' ⟨rfl, hB⟩; have HQ7 := (HQ6.on hB).new #[.int .i64 c.1, .int .i64 c.2] 24; clear hB c0 c1 HQ6))
  generalize (World.alloc _ _) = W7 at HQ7 ⊢
  generalize (World.heap _).size = g12 at HQ7 ⊢
  obtain ⟨c0, c1, c2, c3, c4, c5⟩ := Hold.six HQ7
  have HB := Lib.hid HQ7.1
  obtain ⟨hw1, hw2⟩ := hW.out
  obtain ⟨a1, a2⟩ := a
  obtain ⟨b1, b2⟩ := b
  obtain ⟨d1, d2⟩ := c
  have hF' := hF.out
  have hG' := hG.out
  clear HQ7 hF hG hW hA hX hY
  dsimp only at *
  rcases hF' with rfl | ⟨rfl, rfl, rfl⟩
  · rcases hG' with rfl | ⟨rfl, rfl, rfl⟩ | ⟨rfl, rfl, rfl, hne⟩
    · go_wp2
      go_ret
      exact ⟨rfl, HG0.out ▸ HB.out⟩
    · go_wp2
      go_ret
      exact ⟨rfl, HG0.out ▸ HB.out⟩
    · go_wp2
      go_ret
      exact ⟨rfl, HG0.out ▸ HB.out⟩
  · rcases hG' with rfl | ⟨rfl, rfl, rfl⟩ | ⟨rfl, rfl, rfl, hne⟩
    · go_wp2
      go_ret
      exact ⟨rfl, HG0.out ▸ HB.out⟩
    · go_wp2
      go_ret
      exact ⟨rfl, HG0.out ▸ HB.out⟩
    · go_wp2
      go_ret
      exact ⟨rfl, HG0.out ▸ HB.out⟩
theorem law_walk (p : Int × Int) (m : Int) (hm : 0 ≤ m ∧ m ≤ 4294967295) (w : World) :
    Calls Try.prog 8 #[.agg #[.int .i64 p.1, .int .i64 p.2], .int .u32 m] w fun e w' => e = .returned (.bool true) ∧ Below w.heap.size w w' := by
  obtain ⟨k, k2, k3, k4, k5, k0, k1⟩ := rest_of hm
  cases hp : gd p
  · exact walk_bad p m k _ _ hm.1 hm.2 k0 k1 k2 k3 k4 k5 rfl rfl hp w
  · have hg := gd_iff.1 hp
    unfold Gd at hg
    obtain ⟨h1, h2, h3, h4⟩ := hg
    have b1 := cdv_bd ⟨h1, h2⟩
    have b2 := cdv_bd ⟨h3, h4⟩
    have hA := fun W => At_any p W
    rw [(at_good hp).1, (at_good hp).2] at hA
    refine walk_good p m k (p.1 + 268435456) (p.2 + k) hm.1 hm.2 k0 k1 k2 k3 k4 k5 (IntWalk.i64_in _ (by omega)) (IntWalk.i64_in _ (by omega)) (cdP p) (atV (p.1 + 268435456, p.2)) (atV (p.1, p.2 + k)) (atE (p.1 + 268435456, p.2)) (atE (p.1, p.2 + k)) hp (Lib.hid hA) (Lib.hid fun W => At_any (p.1 + 268435456, p.2) W) (Lib.hid fun W => At_any (p.1, p.2 + k) W) ?_ ?_ (Lib.hid ⟨IntWalk.i64_in _ (by unfold cdP; omega), IntWalk.i64_in _ (by unfold cdP; omega)⟩) w
    · refine Lib.hid ?_
      cases hx : gd (p.1 + 268435456, p.2)
      · exact .inl (at_bad hx).2
      · rw [(at_good hx).1, (at_good hx).2]
        exact .inr ⟨rfl, cdv_next p.1, rfl⟩
    · refine Lib.hid ?_
      cases hx : gd (p.1, p.2 + k)
      · exact .inl (at_bad hx).2
      · rw [(at_good hx).1, (at_good hx).2]
        rcases cdv_less (n := p.2) k0 k1 with e | e
        · exact .inr (.inl ⟨rfl, rfl, e⟩)
        · exact .inr (.inr ⟨rfl, rfl, e, by omega⟩)
end Go.Proofs.Ytfihddpidaidiaa.gridSteps
