/- The program's calls on windows, last part: cutByBorder, Has, Cuts, Meets. -/
import Derived.Test.YtjpjlnijmhjoaaaWinC
import Derived.Test.YtjpjlnijmhjoaaaWinB
import Derived.Test.YtjpjlnijmhjoaaaRingC
namespace Go.Proofs.Ytjpjlnijmhjoaaa
open Go.RowKit

/-- What the border comes to. -/
noncomputable def rimV (L H : Int × Int) (r : List (Int × Int)) : Bool := @decide (Rimmed L H r) (Classical.propDecidable _)
theorem rimV_iff {L H : Int × Int} {r : List (Int × Int)} : rimV L H r = true ↔ Rimmed L H r := by unfold rimV; exact @decide_eq_true_iff _ (Classical.propDecidable _)
theorem rimV_not {L H : Int × Int} {r : List (Int × Int)} : rimV L H r = false ↔ ¬ Rimmed L H r := by rw [← rimV_iff, Bool.not_eq_true]
theorem cells_fp {w W : World} {L H a b : Int × Int} {g0 gx : Nat} {t0 tx : TypeId} {q : Addr} (h : Hold w [(gx, #[.int .i64 a.1, .int .i64 a.2], tx), (g0, #[.int .i64 L.1, .int .i64 L.2, .int .i64 H.1, .int .i64 H.2, .int .i64 L.1, .int .i64 L.2, .int .i64 H.1, .int .i64 L.2, .int .i64 H.1, .int .i64 H.2, .int .i64 L.1, .int .i64 H.2], t0)] W) (f : FP w q b) : W.cell? ⟨gx, 0, none⟩ = some (.int .i64 a.1) ∧ W.cell? ⟨gx, 1, none⟩ = some (.int .i64 a.2) ∧ W.cell? q = some (.int .i64 b.1) ∧ W.cell? ⟨q.block, q.off + 1, none⟩ = some (.int .i64 b.2) ∧ (W.cell? ⟨g0, 0, none⟩ = some (.int .i64 L.1) ∧ W.cell? ⟨g0, 1, none⟩ = some (.int .i64 L.2) ∧ W.cell? ⟨g0, 2, none⟩ = some (.int .i64 H.1) ∧ W.cell? ⟨g0, 3, none⟩ = some (.int .i64 H.2)) ∧ (W.cell? ⟨g0, 4, none⟩ = some (.int .i64 L.1) ∧ W.cell? ⟨g0, 5, none⟩ = some (.int .i64 L.2) ∧ W.cell? ⟨g0, 6, none⟩ = some (.int .i64 H.1) ∧ W.cell? ⟨g0, 7, none⟩ = some (.int .i64 L.2) ∧ W.cell? ⟨g0, 8, none⟩ = some (.int .i64 H.1) ∧ W.cell? ⟨g0, 9, none⟩ = some (.int .i64 H.2) ∧ W.cell? ⟨g0, 10, none⟩ = some (.int .i64 L.1) ∧ W.cell? ⟨g0, 11, none⟩ = some (.int .i64 H.2)) :=
  ⟨(h.pt (.head _)).1, (h.pt (.head _)).2, (h.fp f).1, (h.fp f).2, (h.frm (.tail _ (.head _))).1, (h.frm (.tail _ (.head _))).2⟩

set_option maxRecDepth 100000 in
set_option maxHeartbeats 8000000 in
theorem fborder_any (L H : Int × Int) (ps : List (Int × Int)) (A : Option Addr) (cap : Nat) (hL : L.1 ≤ H.1 ∧ L.2 ≤ H.2) (hg : gdL [L, H] = true) (hn : ps.length ≤ 128) (hgd : gdL ps = true) (w : World) (hr : Pts w w.heap.size A ps) :
    Calls Try.prog 31 #[.agg #[.int .i64 L.1, .int .i64 L.2, .int .i64 H.1, .int .i64 H.2, .int .i64 L.1, .int .i64 L.2, .int .i64 H.1, .int .i64 L.2, .int .i64 H.1, .int .i64 H.2, .int .i64 L.1, .int .i64 H.2], .slice A ps.length cap] w fun e w' => e = .returned (.bool (rimV L H ps)) ∧ Below w.heap.size w w' := by
  have HQ := (Hold.refl w).new #[.int .i64 L.1, .int .i64 L.2, .int .i64 H.1, .int .i64 H.2, .int .i64 L.1, .int .i64 L.2, .int .i64 H.1, .int .i64 L.2, .int .i64 H.1, .int .i64 H.2, .int .i64 L.1, .int .i64 H.2] 48
  have HR := Lib.hid hr
  have HC := Lib.hid (fun a b ha hb W => fcut_any L H a b hL hg ha hb W)
  have HGD := Lib.hid (fun h0 i => nx_gd (i := i) hgd h0)
  have HN := Lib.hid hn
  clear hr hL hg hgd hn
  go_enter Try.func31, Try.ntmps31
  go_upto_region 1 with (fail)
  generalize (World.alloc _ _) = W1 at HQ ⊢
  obtain ⟨g0, hg0⟩ : ∃ g, w.heap.size = g := ⟨_, rfl⟩
  rw [hg0] at HQ ⊢
  have HG0 := Lib.hid hg0
  clear hg0
  go_wp2_with fail
  go_loopg [9] ps.length (fun g i wr => ∃ k : Nat, k ≤ ps.length ∧ g = ps.length - k ∧ i = .int .i64 k ∧ (∀ j, j < k → ¬ Cut L H (nx ps j) (nx ps (j + 1))) ∧ Hold w [(g0, #[.int .i64 L.1, .int .i64 L.2, .int .i64 H.1, .int .i64 H.2, .int .i64 L.1, .int .i64 L.2, .int .i64 H.1, .int .i64 L.2, .int .i64 H.1, .int .i64 H.2, .int .i64 L.1, .int .i64 H.2], 48)] wr)
  case atStart => exact ⟨0, Nat.zero_le _, rfl, rfl, fun j hj => absurd hj (by omega), HQ⟩
  case round =>
    clear HQ
    obtain ⟨k, hk, hgk, rfl, hno, HB⟩ := hrel
    have HGK := Lib.hid hgk
    have HNO := Lib.hid hno
    clear hgk hno
    by_cases hlt : k < ps.length
    · obtain ⟨jk, hjk, ek1, ek2, ek3⟩ := next_place hlt
      obtain ⟨ad, hA, F0⟩ := HR.out.fp hlt (Nat.mod_eq_of_lt hlt)
      obtain ⟨ad', e', F1⟩ := HR.out.fp hjk ek1
      obtain rfl := Option.some.inj (hA.symm.trans e')
      obtain rfl := hA
      have HF1 := Lib.hid F1
      have b0 : (0 : Int) ≤ (k : Int) := by omega
      have b1 : (k : Int) < (ps.length : Int) := by omega
      have b2 : (0 : Int) < (ps.length : Int) := by omega
      have b4 : (0 : Int) ≤ (jk : Int) := by omega
      have b5 : (jk : Int) < (ps.length : Int) := by omega
      have b6 : (ps.length : Int) ≤ 128 := by have := HN.out; omega
      obtain ⟨f0, f1⟩ := HB.fp F0
      have ga := HGD.out (by omega) k
      have gb := HGD.out (by omega) (k + 1)
      have HCK := Lib.hid (HC.out _ _ ga gb)
      have HYK : Hid (cutV L H (nx ps k) (nx ps (k + 1)) = true → rimV L H ps = true) := fun h => rimV_iff.2 ⟨k, hlt, cutV_iff.1 h⟩
      have HNK : Hid (cutV L H (nx ps k) (nx ps (k + 1)) = false → ∀ j, j < k + 1 → ¬ Cut L H (nx ps j) (nx ps (j + 1))) := fun h j hj => by
        by_cases e : j = k
        · subst e; exact cutV_not.1 h
        · exact HNO.out j (by omega)
      clear F0 F1 e' ek1 ga gb
      generalize nx ps k = a at *
      generalize nx ps (k + 1) = b at *
      go_upto_region 4 with (fail)
      have HB1 := HB.new #[.int .i64 a.1, .int .i64 a.2] 23
      generalize (World.alloc wr _) = W4 at HB1 ⊢
      generalize wr.heap.size = gx at HB1 ⊢
      clear HB f0 f1
      go_cut [24] (fun s24 wx => s24 = .bool (cutV L H a b) ∧ Hold w [(gx, #[.int .i64 a.1, .int .i64 a.2], 23), (g0, #[.int .i64 L.1, .int .i64 L.2, .int .i64 H.1, .int .i64 H.2, .int .i64 L.1, .int .i64 L.2, .int .i64 H.1, .int .i64 L.2, .int .i64 H.1, .int .i64 H.2, .int .i64 L.1, .int .i64 H.2], 48)] wx)
      case first =>
        have z1 : ((ps.length : Int) == 0) = false := by rw [beq_eq_false_iff_ne]; omega
        have z2 : ¬ (ps.length : Int) = 0 := by omega
        have z7 : ¬ ps.length = 0 := by omega
        have z8 : ¬ ps = [] := fun e => z7 (by rw [e]; rfl)
        have z3 := wrap_in (n := (k : Int) + 1) (by omega) (by omega)
        have z5 := wrap_in (n := (jk : Int)) (by omega) (by omega)
        clear HYK HNK HNO HGK HC
        go_region_held3 (fun W => W.cell? ⟨gx, 0, none⟩ = some (.int .i64 a.1) ∧ W.cell? ⟨gx, 1, none⟩ = some (.int .i64 a.2) ∧ W.cell? (ad.add (jk * 2)) = some (.int .i64 b.1) ∧ W.cell? ⟨(ad.add (jk * 2)).block, (ad.add (jk * 2)).off + 1, none⟩ = some (.int .i64 b.2) ∧ (W.cell? ⟨g0, 0, none⟩ = some (.int .i64 L.1) ∧ W.cell? ⟨g0, 1, none⟩ = some (.int .i64 L.2) ∧ W.cell? ⟨g0, 2, none⟩ = some (.int .i64 H.1) ∧ W.cell? ⟨g0, 3, none⟩ = some (.int .i64 H.2)) ∧ (W.cell? ⟨g0, 4, none⟩ = some (.int .i64 L.1) ∧ W.cell? ⟨g0, 5, none⟩ = some (.int .i64 L.2) ∧ W.cell? ⟨g0, 6, none⟩ = some (.int .i64 H.1) ∧ W.cell? ⟨g0, 7, none⟩ = some (.int .i64 L.2) ∧ W.cell? ⟨g0, 8, none⟩ = some (.int .i64 H.1) ∧ W.cell? ⟨g0, 9, none⟩ = some (.int .i64 H.2) ∧ W.cell? ⟨g0, 10, none⟩ = some (.int .i64 L.1) ∧ W.cell? ⟨g0, 11, none⟩ = some (.int .i64 H.2))) (first | exact cells_fp (by assumption) HF1.out | exact cells_fp (Hold.drew (by assumption)) HF1.out) ((go_at_call 25; (with_reducible refine (HCK.out _).mono ?_); rintro e w' ⟨rfl, hB⟩; have HS' := Hold.on (by first | assumption | exact Hold.drew (by assumption)) hB))
        go_wp2_with fail
        go_meet
        exact ⟨rfl, HS'⟩
      case rest =>
        obtain ⟨rfl, HB2⟩ := hcut
        clear HB1 HCK HC
        cases hc : cutV L H a b
        · have HNX := Lib.hid (HNK.out hc)
          have HBK := Lib.hid HB2.tail
          clear HYK HNK hc HB2
          go_wp2
          go_roundg (ps.length - (k + 1))
          case measure => have := HGK.out; omega
          case rel => exact ⟨k + 1, by omega, rfl, by go_num, HNX.out, HBK.out⟩
        · have HE := Lib.hid (HYK.out hc)
          have HBK := Lib.hid HB2.1
          clear HYK HNK hc HB2
          go_wp2
          go_ret
          rw [HE.out]
          exact ⟨rfl, HBK.out⟩
    · obtain rfl : k = ps.length := by omega
      have HE : Hid (rimV L H ps = false) := rimV_not.2 fun ⟨i, hi, h⟩ => HNO.out i hi h
      have HBK := Lib.hid HB.1
      clear HB HNO
      go_wp2
      go_ret
      rw [HE.out]
      exact ⟨rfl, HBK.out⟩
end Go.Proofs.Ytjpjlnijmhjoaaa
