/- The least window that has all corners of a ring, by the document. -/
import Derived.Test.YtoiamjglklgcdaaGreatGridC
namespace Go.Proofs.YtoiamjglklgcdaaGreat
open Go.RowKit
set_option maxRecDepth 100000 in
set_option maxHeartbeats 40000000 in
theorem ref_around (ps : List (Int × Int)) (A : Option Addr) (cap : Nat) (h0 : 0 < ps.length) (hn : ps.length ≤ 1000) (w : World) (hr : Pts w w.heap.size A ps) :
  Calls Tryz.prog 44 #[.slice A ps.length cap] w fun e w' => e = .returned (.agg #[.int .i64 (awL ps).1.1, .int .i64 (awL ps).1.2, .int .i64 (awL ps).2.1, .int .i64 (awL ps).2.2]) ∧ Below w.heap.size w w' := by
 have HR := Lib.hid hr
 obtain ⟨ad, rfl, -, -, -⟩ := hr.nx (Below.refl _ w) h0 (Nat.mod_eq_of_lt h0)
 have HAL : Hid (awL ps = awT ps ps.length) := rfl
 have p0 : (0 : Int) < (ps.length : Int) := by omega
 have p1 : (ps.length : Int) ≤ 1000 := by omega
 clear hr
 have HQ := (Hold.refl w).new #[.int .i64 0, .int .i64 0, .int .i64 0, .int .i64 0] 85
 go_enter Tryz.func44, Tryz.ntmps44
 go_upto_region 1 with (fail)
 generalize (World.alloc _ _) = W1 at HQ ⊢
 obtain ⟨g2, hg2⟩ : ∃ g, w.heap.size = g := ⟨_, rfl⟩
 rw [hg2] at HQ ⊢
 have HG2 := Lib.hid hg2
 clear hg2
 have h4 := HQ.new #[.int .i64 0, .int .i64 0, .int .i64 0, .int .i64 0] 85
 go_upto_region 2 with (fail)
 generalize (World.alloc _ _) = W3 at h4 ⊢
 generalize W1.heap.size = g3 at h4 ⊢
 clear HQ
 go_wp2_with fail
 go_loopg [4] ps.length (fun gg s4 wr => ∃ k : Nat, ∃ z : (Int × Int) × (Int × Int), k ≤ ps.length ∧ gg = ps.length - k ∧ s4 = .int .i64 k ∧ Hid ((if k = 0 then ((0, 0), (0, 0)) else awT ps k) = z) ∧ Hold w [(g3, #[.int .i64 z.1.1, .int .i64 z.1.2, .int .i64 z.2.1, .int .i64 z.2.2], 85), (g2, #[.int .i64 0, .int .i64 0, .int .i64 0, .int .i64 0], 85)] wr)
 case atStart => exact ⟨0, ((0, 0), (0, 0)), by omega, rfl, rfl, Lib.hid (if_pos rfl), h4⟩
 case round =>
  clear h4
  obtain ⟨k, z, hk, hgk, rfl, HZ, HH⟩ := hrel
  have HGK := Lib.hid hgk
  clear hgk
  by_cases hlt : k < ps.length
  ·have HP : Hid (∀ W, Below w.heap.size w W → W.cell? (ad.add (k * 2)) = some (.int .i64 (nx ps k).1) ∧ W.cell? ⟨(ad.add (k * 2)).block, (ad.add (k * 2)).off + 1, none⟩ = some (.int .i64 (nx ps k).2)) := fun W hb => by
    obtain ⟨ad', e', -, k0, k1⟩ := HR.out.nx hb hlt (Nat.mod_eq_of_lt hlt)
    obtain rfl := Option.some.inj e'
    exact ⟨k0, k1⟩
   have b0 : (0 : Int) ≤ (k : Int) := by omega
   have b1 : (k : Int) < (ps.length : Int) := by omega
   by_cases hk0 : k = 0
   ·subst hk0
    have HZ1 : Hid ((if (0 : Nat) + 1 = 0 then ((0, 0), (0, 0)) else awT ps (0 + 1)) = (((nx ps 0).1, (nx ps 0).2), ((nx ps 0).1, (nx ps 0).2))) := by
     unfold Hid
     rw [if_neg (by omega), awT_one]
    have e0 : ad.add (0 * 2) = ad := by rw [Nat.zero_mul]; rfl
    rw [e0] at HP
    clear e0
    generalize nx ps 0 = p at *
    clear HZ
    go_upto_region 5 with (fail)
    obtain ⟨c0, c1, c2, c3⟩ := HH.win4
    have f0 := HH.frozen (.head _) 0
    have f1 := HH.frozen (.head _) 1
    have f2 := HH.frozen (.head _) 2
    have f3 := HH.frozen (.head _) 3
    obtain ⟨d0, d1⟩ := HP.out _ HH.1
    go_quiet (fail)
    have h6 : Hold w [(g3, #[.int .i64 p.1, .int .i64 z.1.2, .int .i64 z.2.1, .int .i64 z.2.2], 85), (g2, #[.int .i64 0, .int .i64 0, .int .i64 0, .int .i64 0], 85)] ((wr.drewN nq).setCell ⟨g3, 0, none⟩ (.int .i64 p.1)) := (HH.drewN nq).set 0 (.int .i64 p.1)
    go_upto_region 7 with (fail)
    clear c0 c1 c2 c3 f0 f1 f2 f3 d0 d1 HH
    generalize (World.setCell _ _ _) = W6 at h6 ⊢
    obtain ⟨c0, c1, c2, c3⟩ := h6.win4
    have f0 := h6.frozen (.head _) 0
    have f1 := h6.frozen (.head _) 1
    have f2 := h6.frozen (.head _) 2
    have f3 := h6.frozen (.head _) 3
    obtain ⟨d0, d1⟩ := HP.out _ h6.1
    go_quiet (fail)
    have h7 : Hold w [(g3, #[.int .i64 p.1, .int .i64 p.2, .int .i64 z.2.1, .int .i64 z.2.2], 85), (g2, #[.int .i64 0, .int .i64 0, .int .i64 0, .int .i64 0], 85)] ((W6.drewN nq).setCell ⟨g3, 1, none⟩ (.int .i64 p.2)) := (h6.drewN nq).set 1 (.int .i64 p.2)
    go_upto_region 9 with (fail)
    clear c0 c1 c2 c3 f0 f1 f2 f3 d0 d1 h6
    generalize (World.setCell _ _ _) = W7 at h7 ⊢
    obtain ⟨c0, c1, c2, c3⟩ := h7.win4
    have f0 := h7.frozen (.head _) 0
    have f1 := h7.frozen (.head _) 1
    have f2 := h7.frozen (.head _) 2
    have f3 := h7.frozen (.head _) 3
    obtain ⟨d0, d1⟩ := HP.out _ h7.1
    go_quiet (fail)
    have h8 : Hold w [(g3, #[.int .i64 p.1, .int .i64 p.2, .int .i64 p.1, .int .i64 z.2.2], 85), (g2, #[.int .i64 0, .int .i64 0, .int .i64 0, .int .i64 0], 85)] ((W7.drewN nq).setCell ⟨g3, 2, none⟩ (.int .i64 p.1)) := (h7.drewN nq).set 2 (.int .i64 p.1)
    go_upto_region 11 with (fail)
    clear c0 c1 c2 c3 f0 f1 f2 f3 d0 d1 h7
    generalize (World.setCell _ _ _) = W8 at h8 ⊢
    obtain ⟨c0, c1, c2, c3⟩ := h8.win4
    have f0 := h8.frozen (.head _) 0
    have f1 := h8.frozen (.head _) 1
    have f2 := h8.frozen (.head _) 2
    have f3 := h8.frozen (.head _) 3
    obtain ⟨d0, d1⟩ := HP.out _ h8.1
    go_quiet (fail)
    have h9 : Hold w [(g3, #[.int .i64 p.1, .int .i64 p.2, .int .i64 p.1, .int .i64 p.2], 85), (g2, #[.int .i64 0, .int .i64 0, .int .i64 0, .int .i64 0], 85)] ((W8.drewN nq).setCell ⟨g3, 3, none⟩ (.int .i64 p.2)) := (h8.drewN nq).set 3 (.int .i64 p.2)
    go_wp2_with fail
    go_roundg (ps.length - (0 + 1))
    case measure => have := HGK.out; omega
    case rel => exact ⟨0 + 1, ((p.1, p.2), (p.1, p.2)), by omega, rfl, by go_num, HZ1, h9⟩
   ·have HT : Hid (awT ps (k + 1) = awS z (nx ps k)) := by
     have := HZ.out
     rw [if_neg hk0] at this
     unfold Hid
     rw [awT_succ, this]
    have z1 : ((k : Int) == 0) = false := by rw [beq_eq_false_iff_ne]; omega
    have z2 : ¬ (k : Int) = 0 := by omega
    have z3 : decide ((k : Int) = 0) = false := decide_eq_false z2
    generalize nx ps k = p at *
    clear HZ hk0
    go_upto_region 5 with (fail)
    obtain ⟨c0, c1, c2, c3⟩ := HH.win4
    have f0 := HH.frozen (.head _) 0
    have f1 := HH.frozen (.head _) 1
    have f2 := HH.frozen (.head _) 2
    have f3 := HH.frozen (.head _) 3
    obtain ⟨d0, d1⟩ := HP.out _ HH.1
    by_cases t0 : p.1 < z.1.1
    ·have T0 := Lib.hid t0
     go_quiet (fail)
     have h6 : Hold w [(g3, #[.int .i64 p.1, .int .i64 z.1.2, .int .i64 z.2.1, .int .i64 z.2.2], 85), (g2, #[.int .i64 0, .int .i64 0, .int .i64 0, .int .i64 0], 85)] ((wr.drewN nq).setCell ⟨g3, 0, none⟩ (.int .i64 p.1)) := (HH.drewN nq).set 0 (.int .i64 p.1)
     go_upto_region 7 with (fail)
     clear c0 c1 c2 c3 f0 f1 f2 f3 d0 d1 HH t0
     generalize (World.setCell _ _ _) = W6 at h6 ⊢
     obtain ⟨c0, c1, c2, c3⟩ := h6.win4
     have f0 := h6.frozen (.head _) 0
     have f1 := h6.frozen (.head _) 1
     have f2 := h6.frozen (.head _) 2
     have f3 := h6.frozen (.head _) 3
     obtain ⟨d0, d1⟩ := HP.out _ h6.1
     by_cases t1 : p.2 < z.1.2
     ·have T1 := Lib.hid t1
      go_quiet (fail)
      have h7 : Hold w [(g3, #[.int .i64 p.1, .int .i64 p.2, .int .i64 z.2.1, .int .i64 z.2.2], 85), (g2, #[.int .i64 0, .int .i64 0, .int .i64 0, .int .i64 0], 85)] ((W6.drewN nq).setCell ⟨g3, 1, none⟩ (.int .i64 p.2)) := (h6.drewN nq).set 1 (.int .i64 p.2)
      go_upto_region 9 with (fail)
      clear c0 c1 c2 c3 f0 f1 f2 f3 d0 d1 h6 t1
      generalize (World.setCell _ _ _) = W7 at h7 ⊢
      obtain ⟨c0, c1, c2, c3⟩ := h7.win4
      have f0 := h7.frozen (.head _) 0
      have f1 := h7.frozen (.head _) 1
      have f2 := h7.frozen (.head _) 2
      have f3 := h7.frozen (.head _) 3
      obtain ⟨d0, d1⟩ := HP.out _ h7.1
      by_cases t2 : z.2.1 < p.1
      ·have T2 := Lib.hid t2
       go_quiet (fail)
       have h8 : Hold w [(g3, #[.int .i64 p.1, .int .i64 p.2, .int .i64 p.1, .int .i64 z.2.2], 85), (g2, #[.int .i64 0, .int .i64 0, .int .i64 0, .int .i64 0], 85)] ((W7.drewN nq).setCell ⟨g3, 2, none⟩ (.int .i64 p.1)) := (h7.drewN nq).set 2 (.int .i64 p.1)
       go_upto_region 11 with (fail)
       clear c0 c1 c2 c3 f0 f1 f2 f3 d0 d1 h7 t2
       generalize (World.setCell _ _ _) = W8 at h8 ⊢
       obtain ⟨c0, c1, c2, c3⟩ := h8.win4
       have f0 := h8.frozen (.head _) 0
       have f1 := h8.frozen (.head _) 1
       have f2 := h8.frozen (.head _) 2
       have f3 := h8.frozen (.head _) 3
       obtain ⟨d0, d1⟩ := HP.out _ h8.1
       by_cases t3 : z.2.2 < p.2
       ·have T3 := Lib.hid t3
        go_quiet (fail)
        have h9 : Hold w [(g3, #[.int .i64 p.1, .int .i64 p.2, .int .i64 p.1, .int .i64 p.2], 85), (g2, #[.int .i64 0, .int .i64 0, .int .i64 0, .int .i64 0], 85)] ((W8.drewN nq).setCell ⟨g3, 3, none⟩ (.int .i64 p.2)) := (h8.drewN nq).set 3 (.int .i64 p.2)
        go_wp2_with fail
        go_roundg (ps.length - (k + 1))
        case measure => have := HGK.out; omega
        case rel => exact ⟨k + 1, ((p.1, p.2), (p.1, p.2)), by omega, rfl, by go_num, by unfold Hid; rw [if_neg (by omega), HT.out, awS_if, if_pos T0.out, if_pos T1.out, if_pos T2.out, if_pos T3.out], h9⟩
       ·have T3 := Lib.hid t3
        have q3 : decide (z.2.2 < p.2) = false := decide_eq_false t3
        clear t3
        go_quiet (fail)
        have h9 := h8.drewN nq
        go_wp2_with fail
        go_roundg (ps.length - (k + 1))
        case measure => have := HGK.out; omega
        case rel => exact ⟨k + 1, ((p.1, p.2), (p.1, z.2.2)), by omega, rfl, by go_num, by unfold Hid; rw [if_neg (by omega), HT.out, awS_if, if_pos T0.out, if_pos T1.out, if_pos T2.out, if_neg (by have := T3.out; omega)], h9⟩
      ·have T2 := Lib.hid t2
       have q2 : decide (z.2.1 < p.1) = false := decide_eq_false t2
       clear t2
       go_quiet (fail)
       have h8 := h7.drewN nq
       go_upto_region 11 with (fail)
       clear c0 c1 c2 c3 f0 f1 f2 f3 d0 d1 h7 q2
       generalize (World.drewN _ _) = W8 at h8 ⊢
       obtain ⟨c0, c1, c2, c3⟩ := h8.win4
       have f0 := h8.frozen (.head _) 0
       have f1 := h8.frozen (.head _) 1
       have f2 := h8.frozen (.head _) 2
       have f3 := h8.frozen (.head _) 3
       obtain ⟨d0, d1⟩ := HP.out _ h8.1
       by_cases t3 : z.2.2 < p.2
       ·have T3 := Lib.hid t3
        go_quiet (fail)
        have h9 : Hold w [(g3, #[.int .i64 p.1, .int .i64 p.2, .int .i64 z.2.1, .int .i64 p.2], 85), (g2, #[.int .i64 0, .int .i64 0, .int .i64 0, .int .i64 0], 85)] ((W8.drewN nq).setCell ⟨g3, 3, none⟩ (.int .i64 p.2)) := (h8.drewN nq).set 3 (.int .i64 p.2)
        go_wp2_with fail
        go_roundg (ps.length - (k + 1))
        case measure => have := HGK.out; omega
        case rel => exact ⟨k + 1, ((p.1, p.2), (z.2.1, p.2)), by omega, rfl, by go_num, by unfold Hid; rw [if_neg (by omega), HT.out, awS_if, if_pos T0.out, if_pos T1.out, if_neg (by have := T2.out; omega), if_pos T3.out], h9⟩
       ·have T3 := Lib.hid t3
        have q3 : decide (z.2.2 < p.2) = false := decide_eq_false t3
        clear t3
        go_quiet (fail)
        have h9 := h8.drewN nq
        go_wp2_with fail
        go_roundg (ps.length - (k + 1))
        case measure => have := HGK.out; omega
        case rel => exact ⟨k + 1, ((p.1, p.2), (z.2.1, z.2.2)), by omega, rfl, by go_num, by unfold Hid; rw [if_neg (by omega), HT.out, awS_if, if_pos T0.out, if_pos T1.out, if_neg (by have := T2.out; omega), if_neg (by have := T3.out; omega)], h9⟩
     ·have T1 := Lib.hid t1
      have q1 : decide (p.2 < z.1.2) = false := decide_eq_false t1
      clear t1
      go_quiet (fail)
      have h7 := h6.drewN nq
      go_upto_region 9 with (fail)
      clear c0 c1 c2 c3 f0 f1 f2 f3 d0 d1 h6 q1
      generalize (World.drewN _ _) = W7 at h7 ⊢
      obtain ⟨c0, c1, c2, c3⟩ := h7.win4
      have f0 := h7.frozen (.head _) 0
      have f1 := h7.frozen (.head _) 1
      have f2 := h7.frozen (.head _) 2
      have f3 := h7.frozen (.head _) 3
      obtain ⟨d0, d1⟩ := HP.out _ h7.1
      by_cases t2 : z.2.1 < p.1
      ·have T2 := Lib.hid t2
       go_quiet (fail)
       have h8 : Hold w [(g3, #[.int .i64 p.1, .int .i64 z.1.2, .int .i64 p.1, .int .i64 z.2.2], 85), (g2, #[.int .i64 0, .int .i64 0, .int .i64 0, .int .i64 0], 85)] ((W7.drewN nq).setCell ⟨g3, 2, none⟩ (.int .i64 p.1)) := (h7.drewN nq).set 2 (.int .i64 p.1)
       go_upto_region 11 with (fail)
       clear c0 c1 c2 c3 f0 f1 f2 f3 d0 d1 h7 t2
       generalize (World.setCell _ _ _) = W8 at h8 ⊢
       obtain ⟨c0, c1, c2, c3⟩ := h8.win4
       have f0 := h8.frozen (.head _) 0
       have f1 := h8.frozen (.head _) 1
       have f2 := h8.frozen (.head _) 2
       have f3 := h8.frozen (.head _) 3
       obtain ⟨d0, d1⟩ := HP.out _ h8.1
       by_cases t3 : z.2.2 < p.2
       ·have T3 := Lib.hid t3
        go_quiet (fail)
        have h9 : Hold w [(g3, #[.int .i64 p.1, .int .i64 z.1.2, .int .i64 p.1, .int .i64 p.2], 85), (g2, #[.int .i64 0, .int .i64 0, .int .i64 0, .int .i64 0], 85)] ((W8.drewN nq).setCell ⟨g3, 3, none⟩ (.int .i64 p.2)) := (h8.drewN nq).set 3 (.int .i64 p.2)
        go_wp2_with fail
        go_roundg (ps.length - (k + 1))
        case measure => have := HGK.out; omega
        case rel => exact ⟨k + 1, ((p.1, z.1.2), (p.1, p.2)), by omega, rfl, by go_num, by unfold Hid; rw [if_neg (by omega), HT.out, awS_if, if_pos T0.out, if_neg (by have := T1.out; omega), if_pos T2.out, if_pos T3.out], h9⟩
       ·have T3 := Lib.hid t3
        have q3 : decide (z.2.2 < p.2) = false := decide_eq_false t3
        clear t3
        go_quiet (fail)
        have h9 := h8.drewN nq
        go_wp2_with fail
        go_roundg (ps.length - (k + 1))
        case measure => have := HGK.out; omega
        case rel => exact ⟨k + 1, ((p.1, z.1.2), (p.1, z.2.2)), by omega, rfl, by go_num, by unfold Hid; rw [if_neg (by omega), HT.out, awS_if, if_pos T0.out, if_neg (by have := T1.out; omega), if_pos T2.out, if_neg (by have := T3.out; omega)], h9⟩
      ·have T2 := Lib.hid t2
       have q2 : decide (z.2.1 < p.1) = false := decide_eq_false t2
       clear t2
       go_quiet (fail)
       have h8 := h7.drewN nq
       go_upto_region 11 with (fail)
       clear c0 c1 c2 c3 f0 f1 f2 f3 d0 d1 h7 q2
       generalize (World.drewN _ _) = W8 at h8 ⊢
       obtain ⟨c0, c1, c2, c3⟩ := h8.win4
       have f0 := h8.frozen (.head _) 0
       have f1 := h8.frozen (.head _) 1
       have f2 := h8.frozen (.head _) 2
       have f3 := h8.frozen (.head _) 3
       obtain ⟨d0, d1⟩ := HP.out _ h8.1
       by_cases t3 : z.2.2 < p.2
       ·have T3 := Lib.hid t3
        go_quiet (fail)
        have h9 : Hold w [(g3, #[.int .i64 p.1, .int .i64 z.1.2, .int .i64 z.2.1, .int .i64 p.2], 85), (g2, #[.int .i64 0, .int .i64 0, .int .i64 0, .int .i64 0], 85)] ((W8.drewN nq).setCell ⟨g3, 3, none⟩ (.int .i64 p.2)) := (h8.drewN nq).set 3 (.int .i64 p.2)
        go_wp2_with fail
        go_roundg (ps.length - (k + 1))
        case measure => have := HGK.out; omega
        case rel => exact ⟨k + 1, ((p.1, z.1.2), (z.2.1, p.2)), by omega, rfl, by go_num, by unfold Hid; rw [if_neg (by omega), HT.out, awS_if, if_pos T0.out, if_neg (by have := T1.out; omega), if_neg (by have := T2.out; omega), if_pos T3.out], h9⟩
       ·have T3 := Lib.hid t3
        have q3 : decide (z.2.2 < p.2) = false := decide_eq_false t3
        clear t3
        go_quiet (fail)
        have h9 := h8.drewN nq
        go_wp2_with fail
        go_roundg (ps.length - (k + 1))
        case measure => have := HGK.out; omega
        case rel => exact ⟨k + 1, ((p.1, z.1.2), (z.2.1, z.2.2)), by omega, rfl, by go_num, by unfold Hid; rw [if_neg (by omega), HT.out, awS_if, if_pos T0.out, if_neg (by have := T1.out; omega), if_neg (by have := T2.out; omega), if_neg (by have := T3.out; omega)], h9⟩
    ·have T0 := Lib.hid t0
     have q0 : decide (p.1 < z.1.1) = false := decide_eq_false t0
     clear t0
     go_quiet (fail)
     have h6 := HH.drewN nq
     go_upto_region 7 with (fail)
     clear c0 c1 c2 c3 f0 f1 f2 f3 d0 d1 HH q0
     generalize (World.drewN _ _) = W6 at h6 ⊢
     obtain ⟨c0, c1, c2, c3⟩ := h6.win4
     have f0 := h6.frozen (.head _) 0
     have f1 := h6.frozen (.head _) 1
     have f2 := h6.frozen (.head _) 2
     have f3 := h6.frozen (.head _) 3
     obtain ⟨d0, d1⟩ := HP.out _ h6.1
     by_cases t1 : p.2 < z.1.2
     ·have T1 := Lib.hid t1
      go_quiet (fail)
      have h7 : Hold w [(g3, #[.int .i64 z.1.1, .int .i64 p.2, .int .i64 z.2.1, .int .i64 z.2.2], 85), (g2, #[.int .i64 0, .int .i64 0, .int .i64 0, .int .i64 0], 85)] ((W6.drewN nq).setCell ⟨g3, 1, none⟩ (.int .i64 p.2)) := (h6.drewN nq).set 1 (.int .i64 p.2)
      go_upto_region 9 with (fail)
      clear c0 c1 c2 c3 f0 f1 f2 f3 d0 d1 h6 t1
      generalize (World.setCell _ _ _) = W7 at h7 ⊢
      obtain ⟨c0, c1, c2, c3⟩ := h7.win4
      have f0 := h7.frozen (.head _) 0
      have f1 := h7.frozen (.head _) 1
      have f2 := h7.frozen (.head _) 2
      have f3 := h7.frozen (.head _) 3
      obtain ⟨d0, d1⟩ := HP.out _ h7.1
      by_cases t2 : z.2.1 < p.1
      ·have T2 := Lib.hid t2
       go_quiet (fail)
       have h8 : Hold w [(g3, #[.int .i64 z.1.1, .int .i64 p.2, .int .i64 p.1, .int .i64 z.2.2], 85), (g2, #[.int .i64 0, .int .i64 0, .int .i64 0, .int .i64 0], 85)] ((W7.drewN nq).setCell ⟨g3, 2, none⟩ (.int .i64 p.1)) := (h7.drewN nq).set 2 (.int .i64 p.1)
       go_upto_region 11 with (fail)
       clear c0 c1 c2 c3 f0 f1 f2 f3 d0 d1 h7 t2
       generalize (World.setCell _ _ _) = W8 at h8 ⊢
       obtain ⟨c0, c1, c2, c3⟩ := h8.win4
       have f0 := h8.frozen (.head _) 0
       have f1 := h8.frozen (.head _) 1
       have f2 := h8.frozen (.head _) 2
       have f3 := h8.frozen (.head _) 3
       obtain ⟨d0, d1⟩ := HP.out _ h8.1
       by_cases t3 : z.2.2 < p.2
       ·have T3 := Lib.hid t3
        go_quiet (fail)
        have h9 : Hold w [(g3, #[.int .i64 z.1.1, .int .i64 p.2, .int .i64 p.1, .int .i64 p.2], 85), (g2, #[.int .i64 0, .int .i64 0, .int .i64 0, .int .i64 0], 85)] ((W8.drewN nq).setCell ⟨g3, 3, none⟩ (.int .i64 p.2)) := (h8.drewN nq).set 3 (.int .i64 p.2)
        go_wp2_with fail
        go_roundg (ps.length - (k + 1))
        case measure => have := HGK.out; omega
        case rel => exact ⟨k + 1, ((z.1.1, p.2), (p.1, p.2)), by omega, rfl, by go_num, by unfold Hid; rw [if_neg (by omega), HT.out, awS_if, if_neg (by have := T0.out; omega), if_pos T1.out, if_pos T2.out, if_pos T3.out], h9⟩
       ·have T3 := Lib.hid t3
        have q3 : decide (z.2.2 < p.2) = false := decide_eq_false t3
        clear t3
        go_quiet (fail)
        have h9 := h8.drewN nq
        go_wp2_with fail
        go_roundg (ps.length - (k + 1))
        case measure => have := HGK.out; omega
        case rel => exact ⟨k + 1, ((z.1.1, p.2), (p.1, z.2.2)), by omega, rfl, by go_num, by unfold Hid; rw [if_neg (by omega), HT.out, awS_if, if_neg (by have := T0.out; omega), if_pos T1.out, if_pos T2.out, if_neg (by have := T3.out; omega)], h9⟩
      ·have T2 := Lib.hid t2
       have q2 : decide (z.2.1 < p.1) = false := decide_eq_false t2
       clear t2
       go_quiet (fail)
       have h8 := h7.drewN nq
       go_upto_region 11 with (fail)
       clear c0 c1 c2 c3 f0 f1 f2 f3 d0 d1 h7 q2
       generalize (World.drewN _ _) = W8 at h8 ⊢
       obtain ⟨c0, c1, c2, c3⟩ := h8.win4
       have f0 := h8.frozen (.head _) 0
       have f1 := h8.frozen (.head _) 1
       have f2 := h8.frozen (.head _) 2
       have f3 := h8.frozen (.head _) 3
       obtain ⟨d0, d1⟩ := HP.out _ h8.1
       by_cases t3 : z.2.2 < p.2
       ·have T3 := Lib.hid t3
        go_quiet (fail)
        have h9 : Hold w [(g3, #[.int .i64 z.1.1, .int .i64 p.2, .int .i64 z.2.1, .int .i64 p.2], 85), (g2, #[.int .i64 0, .int .i64 0, .int .i64 0, .int .i64 0], 85)] ((W8.drewN nq).setCell ⟨g3, 3, none⟩ (.int .i64 p.2)) := (h8.drewN nq).set 3 (.int .i64 p.2)
        go_wp2_with fail
        go_roundg (ps.length - (k + 1))
        case measure => have := HGK.out; omega
        case rel => exact ⟨k + 1, ((z.1.1, p.2), (z.2.1, p.2)), by omega, rfl, by go_num, by unfold Hid; rw [if_neg (by omega), HT.out, awS_if, if_neg (by have := T0.out; omega), if_pos T1.out, if_neg (by have := T2.out; omega), if_pos T3.out], h9⟩
       ·have T3 := Lib.hid t3
        have q3 : decide (z.2.2 < p.2) = false := decide_eq_false t3
        clear t3
        go_quiet (fail)
        have h9 := h8.drewN nq
        go_wp2_with fail
        go_roundg (ps.length - (k + 1))
        case measure => have := HGK.out; omega
        case rel => exact ⟨k + 1, ((z.1.1, p.2), (z.2.1, z.2.2)), by omega, rfl, by go_num, by unfold Hid; rw [if_neg (by omega), HT.out, awS_if, if_neg (by have := T0.out; omega), if_pos T1.out, if_neg (by have := T2.out; omega), if_neg (by have := T3.out; omega)], h9⟩
     ·have T1 := Lib.hid t1
      have q1 : decide (p.2 < z.1.2) = false := decide_eq_false t1
      clear t1
      go_quiet (fail)
      have h7 := h6.drewN nq
      go_upto_region 9 with (fail)
      clear c0 c1 c2 c3 f0 f1 f2 f3 d0 d1 h6 q1
      generalize (World.drewN _ _) = W7 at h7 ⊢
      obtain ⟨c0, c1, c2, c3⟩ := h7.win4
      have f0 := h7.frozen (.head _) 0
      have f1 := h7.frozen (.head _) 1
      have f2 := h7.frozen (.head _) 2
      have f3 := h7.frozen (.head _) 3
      obtain ⟨d0, d1⟩ := HP.out _ h7.1
      by_cases t2 : z.2.1 < p.1
      ·have T2 := Lib.hid t2
       go_quiet (fail)
       have h8 : Hold w [(g3, #[.int .i64 z.1.1, .int .i64 z.1.2, .int .i64 p.1, .int .i64 z.2.2], 85), (g2, #[.int .i64 0, .int .i64 0, .int .i64 0, .int .i64 0], 85)] ((W7.drewN nq).setCell ⟨g3, 2, none⟩ (.int .i64 p.1)) := (h7.drewN nq).set 2 (.int .i64 p.1)
       go_upto_region 11 with (fail)
       clear c0 c1 c2 c3 f0 f1 f2 f3 d0 d1 h7 t2
       generalize (World.setCell _ _ _) = W8 at h8 ⊢
       obtain ⟨c0, c1, c2, c3⟩ := h8.win4
       have f0 := h8.frozen (.head _) 0
       have f1 := h8.frozen (.head _) 1
       have f2 := h8.frozen (.head _) 2
       have f3 := h8.frozen (.head _) 3
       obtain ⟨d0, d1⟩ := HP.out _ h8.1
       by_cases t3 : z.2.2 < p.2
       ·have T3 := Lib.hid t3
        go_quiet (fail)
        have h9 : Hold w [(g3, #[.int .i64 z.1.1, .int .i64 z.1.2, .int .i64 p.1, .int .i64 p.2], 85), (g2, #[.int .i64 0, .int .i64 0, .int .i64 0, .int .i64 0], 85)] ((W8.drewN nq).setCell ⟨g3, 3, none⟩ (.int .i64 p.2)) := (h8.drewN nq).set 3 (.int .i64 p.2)
        go_wp2_with fail
        go_roundg (ps.length - (k + 1))
        case measure => have := HGK.out; omega
        case rel => exact ⟨k + 1, ((z.1.1, z.1.2), (p.1, p.2)), by omega, rfl, by go_num, by unfold Hid; rw [if_neg (by omega), HT.out, awS_if, if_neg (by have := T0.out; omega), if_neg (by have := T1.out; omega), if_pos T2.out, if_pos T3.out], h9⟩
       ·have T3 := Lib.hid t3
        have q3 : decide (z.2.2 < p.2) = false := decide_eq_false t3
        clear t3
        go_quiet (fail)
        have h9 := h8.drewN nq
        go_wp2_with fail
        go_roundg (ps.length - (k + 1))
        case measure => have := HGK.out; omega
        case rel => exact ⟨k + 1, ((z.1.1, z.1.2), (p.1, z.2.2)), by omega, rfl, by go_num, by unfold Hid; rw [if_neg (by omega), HT.out, awS_if, if_neg (by have := T0.out; omega), if_neg (by have := T1.out; omega), if_pos T2.out, if_neg (by have := T3.out; omega)], h9⟩
      ·have T2 := Lib.hid t2
       have q2 : decide (z.2.1 < p.1) = false := decide_eq_false t2
       clear t2
       go_quiet (fail)
       have h8 := h7.drewN nq
       go_upto_region 11 with (fail)
       clear c0 c1 c2 c3 f0 f1 f2 f3 d0 d1 h7 q2
       generalize (World.drewN _ _) = W8 at h8 ⊢
       obtain ⟨c0, c1, c2, c3⟩ := h8.win4
       have f0 := h8.frozen (.head _) 0
       have f1 := h8.frozen (.head _) 1
       have f2 := h8.frozen (.head _) 2
       have f3 := h8.frozen (.head _) 3
       obtain ⟨d0, d1⟩ := HP.out _ h8.1
       by_cases t3 : z.2.2 < p.2
       ·have T3 := Lib.hid t3
        go_quiet (fail)
        have h9 : Hold w [(g3, #[.int .i64 z.1.1, .int .i64 z.1.2, .int .i64 z.2.1, .int .i64 p.2], 85), (g2, #[.int .i64 0, .int .i64 0, .int .i64 0, .int .i64 0], 85)] ((W8.drewN nq).setCell ⟨g3, 3, none⟩ (.int .i64 p.2)) := (h8.drewN nq).set 3 (.int .i64 p.2)
        go_wp2_with fail
        go_roundg (ps.length - (k + 1))
        case measure => have := HGK.out; omega
        case rel => exact ⟨k + 1, ((z.1.1, z.1.2), (z.2.1, p.2)), by omega, rfl, by go_num, by unfold Hid; rw [if_neg (by omega), HT.out, awS_if, if_neg (by have := T0.out; omega), if_neg (by have := T1.out; omega), if_neg (by have := T2.out; omega), if_pos T3.out], h9⟩
       ·have T3 := Lib.hid t3
        have q3 : decide (z.2.2 < p.2) = false := decide_eq_false t3
        clear t3
        go_quiet (fail)
        have h9 := h8.drewN nq
        go_wp2_with fail
        go_roundg (ps.length - (k + 1))
        case measure => have := HGK.out; omega
        case rel => exact ⟨k + 1, ((z.1.1, z.1.2), (z.2.1, z.2.2)), by omega, rfl, by go_num, by unfold Hid; rw [if_neg (by omega), HT.out, awS_if, if_neg (by have := T0.out; omega), if_neg (by have := T1.out; omega), if_neg (by have := T2.out; omega), if_neg (by have := T3.out; omega)], h9⟩
  ·obtain rfl : k = ps.length := by omega
   have a3 : ¬ ((ps.length : Int) < (ps.length : Int)) := by omega
   have hz := HZ.out
   rw [if_neg (by omega)] at hz
   have HZ2 := Lib.hid (HAL.out.trans hz)
   obtain ⟨c0, c1, c2, c3⟩ := HH.win4
   have f0 := HH.frozen (.tail _ (.head _)) 0
   have f1 := HH.frozen (.tail _ (.head _)) 1
   have f2 := HH.frozen (.tail _ (.head _)) 2
   have f3 := HH.frozen (.tail _ (.head _)) 3
   obtain ⟨k0, k1, k2, k3⟩ := HH.tail.win4
   have HE : Hold w [(g3, #[.int .i64 z.1.1, .int .i64 z.1.2, .int .i64 z.2.1, .int .i64 z.2.2], 85), (g2, #[.int .i64 z.1.1, .int .i64 z.1.2, .int .i64 z.2.1, .int .i64 z.2.2], 85)] ((((wr.setCell ⟨g2, 0, none⟩ (.int .i64 z.1.1)).setCell ⟨g2, 1, none⟩ (.int .i64 z.1.2)).setCell ⟨g2, 2, none⟩ (.int .i64 z.2.1)).setCell ⟨g2, 3, none⟩ (.int .i64 z.2.2)) := (((HH.swap 0 (.int .i64 z.1.1)).swap 1 (.int .i64 z.1.2)).swap 2 (.int .i64 z.2.1)).swap 3 (.int .i64 z.2.2)
   obtain ⟨n0, n1, n2, n3⟩ := HE.tail.win4
   have HB := Lib.hid HE.1
   clear HE HH HZ hz
   go_wp2
   refine bodyPost_ret (v := .agg #[.int .i64 z.1.1, .int .i64 z.1.2, .int .i64 z.2.1, .int .i64 z.2.2]) ?_ rfl ⟨by rw [HZ2.out], HB.out⟩
   simp [results, Tryz.results44, go_sem, n0, n1, n2, n3]
end Go.Proofs.YtoiamjglklgcdaaGreat
