/- The least window that has all corners of a ring, by the program; the program's Cells. -/
import Derived.Test.YtfihddpidaidiaaGridS
namespace Go.Proofs.Ytfihddpidaidiaa
open Go.RowKit
theorem awS_if (z : (Int × Int) × (Int × Int)) (p : Int × Int) : awS z p = (((if p.1 < z.1.1 then p.1 else z.1.1), (if p.2 < z.1.2 then p.2 else z.1.2)), ((if z.2.1 < p.1 then p.1 else z.2.1), (if z.2.2 < p.2 then p.2 else z.2.2))) := by
  unfold awS
  apply Prod.ext <;> apply Prod.ext <;> dsimp only <;> split <;> omega
theorem Hold.win4 {w W : World} {g : Nat} {t : TypeId} {a b c d : Value} {L : List (Nat × Array Value × TypeId)} (h : Hold w ((g, #[a, b, c, d], t) :: L) W) : W.cell? ⟨g, 0, none⟩ = some a ∧ W.cell? ⟨g, 1, none⟩ = some b ∧ W.cell? ⟨g, 2, none⟩ = some c ∧ W.cell? ⟨g, 3, none⟩ = some d := ⟨h.cell (.head _) 0, h.cell (.head _) 1, h.cell (.head _) 2, h.cell (.head _) 3⟩
set_option maxRecDepth 100000 in
set_option maxHeartbeats 8000000 in
theorem around_any (ps : List (Int × Int)) (A : Option Addr) (cap : Nat) (h0 : 0 < ps.length) (hn : ps.length ≤ 1000) (w : World) (hr : Pts w w.heap.size A ps) :
    Calls Try.prog 28 #[.slice A ps.length cap] w fun e w' => e = .returned (.agg #[.int .i64 (awL ps).1.1, .int .i64 (awL ps).1.2, .int .i64 (awL ps).2.1, .int .i64 (awL ps).2.2]) ∧ Below w.heap.size w w' := by
  have HR := Lib.hid hr
  obtain ⟨ad, rfl, -, k0, k1⟩ := hr.nx (Below.refl _ w) h0 (Nat.mod_eq_of_lt h0)
  have HAT : Hid (awT ps 0 = (nx ps 0, nx ps 0)) := rfl
  have HAL : Hid (awL ps = awT ps ps.length) := rfl
  have p0 : (0 : Int) < (ps.length : Int) := by omega
  have p1 : (ps.length : Int) ≤ 1000 := by omega
  clear hr k0 k1
  have HQ := (Hold.refl w).new #[.int .i64 0, .int .i64 0, .int .i64 0, .int .i64 0] 34
  go_enter Try.func28, Try.ntmps28
  go_upto_region 1 with (fail)
  generalize (World.alloc _ _) = W1 at HQ ⊢
  obtain ⟨g2, hg2⟩ : ∃ g, w.heap.size = g := ⟨_, rfl⟩
  have HK : Hid (∀ W, Below w.heap.size w W → W.cell? (ad.add (0 * 2)) = some (.int .i64 (nx ps 0).1) ∧ W.cell? ⟨(ad.add (0 * 2)).block, (ad.add (0 * 2)).off + 1, none⟩ = some (.int .i64 (nx ps 0).2)) := fun W hb => by
    obtain ⟨ad', e', -, k0, k1⟩ := HR.out.nx hb h0 (Nat.mod_eq_of_lt h0)
    obtain rfl := Option.some.inj e'
    exact ⟨k0, k1⟩
  have HQ0 := Lib.hid HQ
  rw [hg2] at HQ ⊢
  have HG2 := Lib.hid hg2
  clear hg2
  have h2 := HQ.drew
  clear HQ
  have e0 : ad.add (0 * 2) = ad := by rw [Nat.zero_mul]; rfl
  rw [e0] at HK
  generalize nx ps 0 = a at *
  refine wp_region_held_drew (S := fun W => W.cell? ad = some (.int .i64 a.1) ∧ W.cell? ⟨ad.block, ad.off + 1, none⟩ = some (.int .i64 a.2)) (by kernel_rfl) ?_ (fun hHeld => ?_)
  · (try dsimp only)
    exact HK.out _ h2.1
  refine tZ 0 ?_; refine tZ 1 ?_; refine tZ 2 ?_; refine tZ 3 ?_; refine tZ 4 ?_; refine tZ 5 ?_; refine tZ 6 ?_
  generalize (World.drew _) = W2 at h2 hHeld ⊢
  have h3 := h2.new #[.int .i64 0, .int .i64 0, .int .i64 0, .int .i64 0] 34
  refine wpAnyH_ready (rs := [7]) (by decide +kernel) (by simp) ?_
  refine AllReadyH.cons rfl (fun K hK => ?_) AllReadyH.nil
  (try simp only [jA, jB, jC])
  go_simp
  refine hK.out _ _ ?_ (fun hHeld => ?_)
  focus ((try dsimp only); exact HK.out _ h3.1; done)
  clear hK K
  (try simp only [Act.put, jA, jB, jC, jD, jE, jF])
  generalize (World.alloc _ _) = W3 at h3 hHeld ⊢
  generalize W2.heap.size = g3 at h3 ⊢
  have f0 := h3.frozen (.head _) 0
  have f1 := h3.frozen (.head _) 1
  have f2 := h3.frozen (.head _) 2
  have f3 := h3.frozen (.head _) 3
  obtain ⟨c0, c1, c2, c3⟩ := h3.win4
  have h4 : Hold w [(g3, #[.int .i64 a.1, .int .i64 a.2, .int .i64 a.1, .int .i64 a.2], 34), (g2, #[.int .i64 0, .int .i64 0, .int .i64 0, .int .i64 0], 34)] ((((W3.setCell ⟨g3, 0, none⟩ (.int .i64 a.1)).setCell ⟨g3, 1, none⟩ (.int .i64 a.2)).setCell ⟨g3, 2, none⟩ (.int .i64 a.1)).setCell ⟨g3, 3, none⟩ (.int .i64 a.2)) := (((h3.set 0 (.int .i64 a.1)).set 1 (.int .i64 a.2)).set 2 (.int .i64 a.1)).set 3 (.int .i64 a.2)
  refine wpAnyH_ready (rs := [8]) (by decide +kernel) (by simp) ?_
  refine AllReadyH.cons rfl (fun K hK => ?_) AllReadyH.nil
  (try simp only [jA, jB, jC])
  go_simp
  refine hK.out _ _ ?_ (fun hHeld => ?_)
  focus ((try dsimp only); exact HK.out _ h4.1; done)
  clear hK K
  (try simp only [Act.put, jA, jB, jC, jD, jE, jF])
  generalize (World.setCell _ _ _) = W4 at h4 hHeld ⊢
  refine wpAnyH_done (by decide +kernel) ?_ _
  clear c0 c1 c2 c3 f0 f1 f2 f3 h3 h2 hHeld HK
  go_wp2_with fail
  go_loopg [15] ps.length (fun gg s15 wr => ∃ k : Nat, ∃ z : (Int × Int) × (Int × Int), k ≤ ps.length ∧ gg = ps.length - k ∧ s15 = .int .i64 k ∧ Hid (awT ps k = z) ∧ Hold w [(g3, #[.int .i64 z.1.1, .int .i64 z.1.2, .int .i64 z.2.1, .int .i64 z.2.2], 34), (g2, #[.int .i64 0, .int .i64 0, .int .i64 0, .int .i64 0], 34)] wr)
  case atStart => exact ⟨0, (a, a), by omega, rfl, rfl, HAT.out, h4⟩
  case round =>
    clear h4
    obtain ⟨k, z, hk, hgk, rfl, HZ, HH⟩ := hrel
    have HGK := Lib.hid hgk
    clear hgk
    by_cases hlt : k < ps.length
    · obtain ⟨ad', e', -, d0, d1⟩ := HR.out.nx HH.1 hlt (Nat.mod_eq_of_lt hlt)
      obtain rfl := Option.some.inj e'
      have b0 : (0 : Int) ≤ (k : Int) := by omega
      have b1 : (k : Int) < (ps.length : Int) := by omega
      have HT : Hid (awT ps (k + 1) = awS z (nx ps k)) := by unfold Hid; rw [awT_succ, HZ.out]
      clear e'
      generalize nx ps k = p at *
      go_upto_region 5 with (fail)
      have h5 := HH.new #[.int .i64 p.1, .int .i64 p.2] 23
      clear HH d0 d1
      generalize (World.alloc _ _) = W5 at h5 ⊢
      generalize wr.heap.size = g5 at h5 ⊢
      obtain ⟨c0, c1, c2, c3⟩ := h5.tail.win4
      obtain ⟨d0, d1⟩ := h5.pt (.head _)
      have f0 := h5.frozen (.tail _ (.head _)) 0
      have f1 := h5.frozen (.tail _ (.head _)) 1
      obtain ⟨x1, q1⟩ : ∃ x, (if p.1 < z.1.1 then p.1 else z.1.1) = x := ⟨_, rfl⟩
      obtain ⟨x2, q2⟩ : ∃ x, (if p.2 < z.1.2 then p.2 else z.1.2) = x := ⟨_, rfl⟩
      obtain ⟨x3, q3⟩ : ∃ x, (if z.2.1 < p.1 then p.1 else z.2.1) = x := ⟨_, rfl⟩
      obtain ⟨x4, q4⟩ : ∃ x, (if z.2.2 < p.2 then p.2 else z.2.2) = x := ⟨_, rfl⟩
      have HW : Hid (awS z p = ((x1, x2), (x3, x4))) := by
        unfold Hid
        rw [← q1, ← q2, ← q3, ← q4]
        exact awS_if z p
      have h6 : Hold w [(g5, #[.int .i64 p.1, .int .i64 p.2], 23), (g3, #[.int .i64 x1, .int .i64 x2, .int .i64 z.2.1, .int .i64 z.2.2], 34), (g2, #[.int .i64 0, .int .i64 0, .int .i64 0, .int .i64 0], 34)] ((W5.setCell ⟨g3, 0, none⟩ (.int .i64 x1)).setCell ⟨g3, 1, none⟩ (.int .i64 x2)) := (h5.swap 0 (.int .i64 x1)).swap 1 (.int .i64 x2)
      go_upto_region 6 with (fail)
      clear c0 c1 c2 c3 d0 d1 f0 f1 h5
      generalize (World.setCell _ _ _) = W6 at h6 ⊢
      obtain ⟨c0, c1, c2, c3⟩ := h6.tail.win4
      obtain ⟨d0, d1⟩ := h6.pt (.head _)
      have f0 := h6.frozen (.tail _ (.head _)) 2
      have f1 := h6.frozen (.tail _ (.head _)) 3
      have h7 : Hold w [(g5, #[.int .i64 p.1, .int .i64 p.2], 23), (g3, #[.int .i64 x1, .int .i64 x2, .int .i64 x3, .int .i64 x4], 34), (g2, #[.int .i64 0, .int .i64 0, .int .i64 0, .int .i64 0], 34)] ((W6.setCell ⟨g3, 2, none⟩ (.int .i64 x3)).setCell ⟨g3, 3, none⟩ (.int .i64 x4)) := (h6.swap 2 (.int .i64 x3)).swap 3 (.int .i64 x4)
      go_upto_region 7 with (fail)
      clear c0 c1 c2 c3 d0 d1 f0 f1 h6
      generalize (World.setCell _ _ _) = W7 at h7 ⊢
      clear q1 q2 q3 q4
      go_wp2_with fail
      go_roundg (ps.length - (k + 1))
      case measure => have := HGK.out; omega
      case rel => exact ⟨k + 1, ((x1, x2), (x3, x4)), by omega, rfl, by go_num, by unfold Hid; rw [HT.out, HW.out], h7.tail⟩
    · obtain rfl : k = ps.length := by omega
      have a3 : ¬ ((ps.length : Int) < (ps.length : Int)) := by omega
      have HZ2 := Lib.hid (HAL.out.trans HZ.out)
      obtain ⟨c0, c1, c2, c3⟩ := HH.win4
      have f0 := HH.frozen (.tail _ (.head _)) 0
      have f1 := HH.frozen (.tail _ (.head _)) 1
      have f2 := HH.frozen (.tail _ (.head _)) 2
      have f3 := HH.frozen (.tail _ (.head _)) 3
      obtain ⟨k0, k1, k2, k3⟩ := HH.tail.win4
      have HE : Hold w [(g3, #[.int .i64 z.1.1, .int .i64 z.1.2, .int .i64 z.2.1, .int .i64 z.2.2], 34), (g2, #[.int .i64 z.1.1, .int .i64 z.1.2, .int .i64 z.2.1, .int .i64 z.2.2], 34)] ((((wr.setCell ⟨g2, 0, none⟩ (.int .i64 z.1.1)).setCell ⟨g2, 1, none⟩ (.int .i64 z.1.2)).setCell ⟨g2, 2, none⟩ (.int .i64 z.2.1)).setCell ⟨g2, 3, none⟩ (.int .i64 z.2.2)) := (((HH.swap 0 (.int .i64 z.1.1)).swap 1 (.int .i64 z.1.2)).swap 2 (.int .i64 z.2.1)).swap 3 (.int .i64 z.2.2)
      obtain ⟨n0, n1, n2, n3⟩ := HE.tail.win4
      have HB := Lib.hid HE.1
      clear HE HH HZ
      go_wp2
      refine bodyPost_ret (v := .agg #[.int .i64 z.1.1, .int .i64 z.1.2, .int .i64 z.2.1, .int .i64 z.2.2]) ?_ rfl ⟨by rw [HZ2.out], HB.out⟩
      simp [results, Try.results28, go_sem, n0, n1, n2, n3]
end Go.Proofs.Ytfihddpidaidiaa
