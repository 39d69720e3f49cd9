/- The document's own answer Meets, and what layer window's laws share: the given answer. -/
import Derived.Test.YtjpjlnijmhjoaaaWinE
import Derived.Test.YtjpjlnijmhjoaaaRingAns
namespace Go.Proofs.Ytjpjlnijmhjoaaa
open Go.RowKit

theorem cells_wfp {w W : World} {L H a b : Int × Int} {g0 : Nat} {t0 : TypeId} {p q : Addr} (h : Hold w [(g0, #[.int .i64 L.1, .int .i64 L.2, .int .i64 H.1, .int .i64 H.2], t0)] W) (e : FP w p a) (f : FP w q b) : W.cell? p = some (.int .i64 a.1) ∧ W.cell? ⟨p.block, p.off + 1, none⟩ = some (.int .i64 a.2) ∧ W.cell? q = some (.int .i64 b.1) ∧ W.cell? ⟨q.block, q.off + 1, none⟩ = some (.int .i64 b.2) ∧ (W.cell? ⟨g0, 0, none⟩ = some (.int .i64 L.1) ∧ W.cell? ⟨g0, 1, none⟩ = some (.int .i64 L.2) ∧ W.cell? ⟨g0, 2, none⟩ = some (.int .i64 H.1) ∧ W.cell? ⟨g0, 3, none⟩ = some (.int .i64 H.2)) :=
  ⟨(h.fp e).1, (h.fp e).2, (h.fp f).1, (h.fp f).2, h.win (.head _)⟩

set_option maxRecDepth 100000 in
set_option maxHeartbeats 8000000 in
theorem ref_meets (L H : Int × Int) (ps : List (Int × Int)) (A : Option Addr) (cap : Nat) (he : wnE L H = 0) (hc : chE ps = 0) (hn : ps.length ≤ maxLen) (w : World) (hr : Pts w w.heap.size A ps) :
    Calls Try.prog 20 #[.agg #[.int .i64 L.1, .int .i64 L.2, .int .i64 H.1, .int .i64 H.2], .slice A ps.length cap] w fun e w' => e = .returned (.bool (metV L H ps)) ∧ Below w.heap.size w w' := by
  have HQ := (Hold.refl w).new #[.int .i64 L.1, .int .i64 L.2, .int .i64 H.1, .int .i64 H.2] 25
  have HR := Lib.hid hr
  obtain ⟨hg, hL⟩ := wnE_zero.1 he
  obtain ⟨ha, hs⟩ := chE_zero.1 hc
  obtain ⟨h128, hgd⟩ := arE_zero.1 ha
  have HC := Lib.hid (fun a b ha hb W => ref_cuts L H a b hL hg ha hb W)
  have HGD := Lib.hid (fun h0 i => nx_gd (i := i) hgd h0)
  have HN := Lib.hid h128
  have HSD := Lib.hid (fun K W (h : Hold w K W) => ref_side ps A cap L hn hgd (gdL_two.1 hg).1 W (hr.on h.1))
  have HE : Hid (metV L H ps = (decide (0 ≤ side ps L) || rimV L H ps)) := by
    unfold Hid
    rw [Bool.eq_iff_iff, metV_iff, Bool.or_eq_true, decide_eq_true_eq, rimV_iff]
    rfl
  clear hr hL hg hgd hn he hc ha hs h128
  go_enter Try.func20, Try.ntmps20
  go_upto_region 1 with (fail)
  generalize (World.alloc _ _) = W1 at HQ ⊢
  obtain ⟨g0, hg0⟩ : ∃ g, w.heap.size = g := ⟨_, rfl⟩
  rw [hg0] at HQ ⊢
  have HG0 := Lib.hid hg0
  clear hg0
  go_wp2_with fail
  go_loopg [5] ps.length (fun g i wr => ∃ k : Nat, k ≤ ps.length ∧ g = ps.length - k ∧ i = .int .i64 k ∧ (∀ j, j < k → ¬ Cut L H (nx ps j) (nx ps (j + 1))) ∧ Hold w [(g0, #[.int .i64 L.1, .int .i64 L.2, .int .i64 H.1, .int .i64 H.2], 25)] wr)
  case atStart => exact ⟨0, Nat.zero_le _, rfl, rfl, fun j hj => absurd hj (by omega), HQ⟩
  case round =>
    clear HQ
    obtain ⟨k, hk, hgk, rfl, hno, HB⟩ := hrel
    have HGK := Lib.hid hgk
    have HNO := Lib.hid hno
    clear hgk hno
    by_cases hlt : k < ps.length
    · obtain ⟨jk, hjk, ek1, ek2, ek3⟩ := next_place hlt
      obtain ⟨ad, hA, F0⟩ := HR.out.fp hlt (Nat.mod_eq_of_lt hlt)
      obtain ⟨ad', e', F1⟩ := HR.out.fp hjk ek1
      obtain rfl := Option.some.inj (hA.symm.trans e')
      obtain rfl := hA
      have HF0 := Lib.hid F0
      have HF1 := Lib.hid F1
      have b0 : (0 : Int) ≤ (k : Int) := by omega
      have b1 : (k : Int) < (ps.length : Int) := by omega
      have b2 : (0 : Int) < (ps.length : Int) := by omega
      have b4 : (0 : Int) ≤ (jk : Int) := by omega
      have b5 : (jk : Int) < (ps.length : Int) := by omega
      have b6 : (ps.length : Int) ≤ 128 := by have := HN.out; omega
      have ga := HGD.out (by omega) k
      have gb := HGD.out (by omega) (k + 1)
      have HCK := Lib.hid (HC.out _ _ ga gb)
      have HYK : Hid (cutV L H (nx ps k) (nx ps (k + 1)) = true → metV L H ps = true) := fun h => metV_iff.2 (.inr ⟨k, hlt, cutV_iff.1 h⟩)
      have HNK : Hid (cutV L H (nx ps k) (nx ps (k + 1)) = false → ∀ j, j < k + 1 → ¬ Cut L H (nx ps j) (nx ps (j + 1))) := fun h j hj => by
        by_cases e : j = k
        · subst e; exact cutV_not.1 h
        · exact HNO.out j (by omega)
      clear F0 F1 e' ek1 ga gb
      generalize nx ps k = a at *
      generalize nx ps (k + 1) = b at *
      go_upto_region 4 with (fail)
      go_cut [25] (fun s25 wx => s25 = .bool (cutV L H a b) ∧ Hold w [(g0, #[.int .i64 L.1, .int .i64 L.2, .int .i64 H.1, .int .i64 H.2], 25)] wx)
      case first =>
        have z1 : ((ps.length : Int) == 0) = false := by rw [beq_eq_false_iff_ne]; omega
        have z2 : ¬ (ps.length : Int) = 0 := by omega
        have z7 : ¬ ps.length = 0 := by omega
        have z8 : ¬ ps = [] := fun e => z7 (by rw [e]; rfl)
        have z3 := wrap_in (n := (k : Int) + 1) (by omega) (by omega)
        have z4 := wrap_in (n := (k : Int)) (by omega) (by omega)
        have z5 := wrap_in (n := (jk : Int)) (by omega) (by omega)
        clear HYK HNK HNO HGK HC HE HSD
        go_region_held3 (fun W => W.cell? (ad.add (k * 2)) = some (.int .i64 a.1) ∧ W.cell? ⟨(ad.add (k * 2)).block, (ad.add (k * 2)).off + 1, none⟩ = some (.int .i64 a.2) ∧ W.cell? (ad.add (jk * 2)) = some (.int .i64 b.1) ∧ W.cell? ⟨(ad.add (jk * 2)).block, (ad.add (jk * 2)).off + 1, none⟩ = some (.int .i64 b.2) ∧ (W.cell? ⟨g0, 0, none⟩ = some (.int .i64 L.1) ∧ W.cell? ⟨g0, 1, none⟩ = some (.int .i64 L.2) ∧ W.cell? ⟨g0, 2, none⟩ = some (.int .i64 H.1) ∧ W.cell? ⟨g0, 3, none⟩ = some (.int .i64 H.2))) (first | exact cells_wfp (by assumption) HF0.out HF1.out | exact cells_wfp (Hold.drew (by assumption)) HF0.out HF1.out) ((go_at_call 16; (with_reducible refine (HCK.out _).mono ?_); rintro e w' ⟨rfl, hB⟩; have HS' := Hold.on (by first | assumption | exact Hold.drew (by assumption)) hB))
        go_wp2_with fail
        go_meet
        exact ⟨rfl, HS'⟩
      case rest =>
        obtain ⟨rfl, HB2⟩ := hcut
        clear HB HCK HC
        cases hc : cutV L H a b
        · have HNX := Lib.hid (HNK.out hc)
          have HBK := Lib.hid HB2
          clear HYK HNK hc HB2 HE HSD
          go_wp2
          go_roundg (ps.length - (k + 1))
          case measure => have := HGK.out; omega
          case rel => exact ⟨k + 1, by omega, rfl, by go_num, HNX.out, HBK.out⟩
        · have HX := Lib.hid (HYK.out hc)
          have HBK := Lib.hid HB2.1
          clear HYK HNK hc HB2 HE HSD
          go_wp2
          go_ret
          rw [HX.out]
          exact ⟨rfl, HBK.out⟩
    · obtain rfl : k = ps.length := by omega
      have hrf : rimV L H ps = false := rimV_not.2 fun ⟨i, hi, h⟩ => HNO.out i hi h
      have HX : Hid (metV L H ps = decide (0 ≤ side ps L)) := by unfold Hid; rw [HE.out, hrf, Bool.or_false]
      clear HE hrf HNO HC HGD
      obtain ⟨c0, c1, c2, c3⟩ := HB.win (.head _)
      generalize side ps L = s at *
      go_wp2_with fail
      go_at_call 21
      refine (HSD.out _ _ HB).mono ?_
      rintro e w4 ⟨rfl, hB⟩
      have HBK := Lib.hid (HB.on hB).1
      clear hB HB c0 c1 c2 c3 HSD
      go_wp2
      go_ret
      rw [HX.out]
      exact ⟨rfl, HBK.out⟩
end Go.Proofs.Ytjpjlnijmhjoaaa
