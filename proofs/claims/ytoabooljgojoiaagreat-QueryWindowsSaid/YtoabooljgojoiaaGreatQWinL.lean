/- The document's Meets, and the walk of the law QueryWindows. -/
import Derived.Test.YtoabooljgojoiaaGreatWinE
import Derived.Test.YtoabooljgojoiaaGreatQLocL
/- The document's own answer Meets, and what layer window's laws share: the given answer. -/
namespace Go.Proofs.YtoabooljgojoiaaGreat
open Go.RowKit

theorem cells_wfp {w W : World} {L H a b : Int × Int} {g0 : Nat} {t0 : TypeId} {p q : Addr} (h : Hold w [(g0, #[.int .i64 L.1, .int .i64 L.2, .int .i64 H.1, .int .i64 H.2], t0)] W) (e : FP w p a) (f : FP w q b) : W.cell? p = some (.int .i64 a.1) ∧ W.cell? ⟨p.block, p.off + 1, none⟩ = some (.int .i64 a.2) ∧ W.cell? q = some (.int .i64 b.1) ∧ W.cell? ⟨q.block, q.off + 1, none⟩ = some (.int .i64 b.2) ∧ (W.cell? ⟨g0, 0, none⟩ = some (.int .i64 L.1) ∧ W.cell? ⟨g0, 1, none⟩ = some (.int .i64 L.2) ∧ W.cell? ⟨g0, 2, none⟩ = some (.int .i64 H.1) ∧ W.cell? ⟨g0, 3, none⟩ = some (.int .i64 H.2)) :=
 ⟨(h.fp e).1, (h.fp e).2, (h.fp f).1, (h.fp f).2, h.win (.head _)⟩

set_option maxRecDepth 100000 in
set_option maxHeartbeats 8000000 in
theorem ref_meets (L H : Int × Int) (ps : List (Int × Int)) (A : Option Addr) (cap : Nat) (he : wnE L H = 0) (hc : chE ps = 0) (hn : ps.length ≤ maxLen) (w : World) (hr : Pts w w.heap.size A ps) :
  Calls Tryz.prog 16 #[.agg #[.int .i64 L.1, .int .i64 L.2, .int .i64 H.1, .int .i64 H.2], .slice A ps.length cap] w fun e w' => e = .returned (.bool (metV L H ps)) ∧ Below w.heap.size w w' := by
 have HQ := (Hold.refl w).new #[.int .i64 L.1, .int .i64 L.2, .int .i64 H.1, .int .i64 H.2] 43
 have HR := Lib.hid hr
 obtain ⟨hg, hL⟩ := wnE_zero.1 he
 obtain ⟨ha, hs⟩ := chE_zero.1 hc
 obtain ⟨h128, hgd⟩ := arE_zero.1 ha
 have HC := Lib.hid (fun a b ha hb W => ref_cuts L H a b hL hg ha hb W)
 have HGD := Lib.hid (fun h0 i => nx_gd (i := i) hgd h0)
 have HN := Lib.hid h128
 have HSD := Lib.hid (fun K W (h : Hold w K W) => ref_side ps A cap L hn hgd (gdL_two.1 hg).1 W (hr.on h.1))
 have HE : Hid (metV L H ps = (decide (0 ≤ side ps L) || rimV L H ps)) := by
  unfold Hid
  rw [Bool.eq_iff_iff, metV_iff, Bool.or_eq_true, decide_eq_true_eq, rimV_iff]
  rfl
 clear hr hL hg hgd hn he hc ha hs h128
 go_enter Tryz.func16, Tryz.ntmps16
 go_upto_region 1 with (fail)
 generalize (World.alloc _ _) = W1 at HQ ⊢
 obtain ⟨g0, hg0⟩ : ∃ g, w.heap.size = g := ⟨_, rfl⟩
 rw [hg0] at HQ ⊢
 have HG0 := Lib.hid hg0
 clear hg0
 go_wp2_with fail
 go_loopg [5] ps.length (fun g i wr => ∃ k : Nat, k ≤ ps.length ∧ g = ps.length - k ∧ i = .int .i64 k ∧ (∀ j, j < k → ¬ Cut L H (nx ps j) (nx ps (j + 1))) ∧ Hold w [(g0, #[.int .i64 L.1, .int .i64 L.2, .int .i64 H.1, .int .i64 H.2], 43)] wr)
 case atStart => exact ⟨0, Nat.zero_le _, rfl, rfl, fun j hj => absurd hj (by omega), HQ⟩
 case round =>
  clear HQ
  obtain ⟨k, hk, hgk, rfl, hno, HB⟩ := hrel
  have HGK := Lib.hid hgk
  have HNO := Lib.hid hno
  clear hgk hno
  by_cases hlt : k < ps.length
  ·obtain ⟨jk, hjk, ek1, ek2, ek3⟩ := next_place hlt
   obtain ⟨ad, hA, F0⟩ := HR.out.fp hlt (Nat.mod_eq_of_lt hlt)
   obtain ⟨ad', e', F1⟩ := HR.out.fp hjk ek1
   obtain rfl := Option.some.inj (hA.symm.trans e')
   obtain rfl := hA
   have HF0 := Lib.hid F0
   have HF1 := Lib.hid F1
   have b0 : (0 : Int) ≤ (k : Int) := by omega
   have b1 : (k : Int) < (ps.length : Int) := by omega
   have b2 : (0 : Int) < (ps.length : Int) := by omega
   have b4 : (0 : Int) ≤ (jk : Int) := by omega
   have b5 : (jk : Int) < (ps.length : Int) := by omega
   have b6 : (ps.length : Int) ≤ 128 := by have := HN.out; omega
   have ga := HGD.out (by omega) k
   have gb := HGD.out (by omega) (k + 1)
   have HCK := Lib.hid (HC.out _ _ ga gb)
   have HYK : Hid (cutV L H (nx ps k) (nx ps (k + 1)) = true → metV L H ps = true) := fun h => metV_iff.2 (.inr ⟨k, hlt, cutV_iff.1 h⟩)
   have HNK : Hid (cutV L H (nx ps k) (nx ps (k + 1)) = false → ∀ j, j < k + 1 → ¬ Cut L H (nx ps j) (nx ps (j + 1))) := fun h j hj => by
    by_cases e : j = k
    ·subst e; exact cutV_not.1 h
    ·exact HNO.out j (by omega)
   clear F0 F1 e' ek1 ga gb
   generalize nx ps k = a at *
   generalize nx ps (k + 1) = b at *
   go_upto_region 4 with (fail)
   go_cut [25] (fun s25 wx => s25 = .bool (cutV L H a b) ∧ Hold w [(g0, #[.int .i64 L.1, .int .i64 L.2, .int .i64 H.1, .int .i64 H.2], 43)] wx)
   case first =>
    have z1 : ((ps.length : Int) == 0) = false := by rw [beq_eq_false_iff_ne]; omega
    have z2 : ¬ (ps.length : Int) = 0 := by omega
    have z7 : ¬ ps.length = 0 := by omega
    have z8 : ¬ ps = [] := fun e => z7 (by rw [e]; rfl)
    have z3 := wrap_in (n := (k : Int) + 1) (by omega) (by omega)
    have z4 := wrap_in (n := (k : Int)) (by omega) (by omega)
    have z5 := wrap_in (n := (jk : Int)) (by omega) (by omega)
    clear HYK HNK HNO HGK HC HE HSD
    go_region_held3 (fun W => W.cell? (ad.add (k * 2)) = some (.int .i64 a.1) ∧ W.cell? ⟨(ad.add (k * 2)).block, (ad.add (k * 2)).off + 1, none⟩ = some (.int .i64 a.2) ∧ W.cell? (ad.add (jk * 2)) = some (.int .i64 b.1) ∧ W.cell? ⟨(ad.add (jk * 2)).block, (ad.add (jk * 2)).off + 1, none⟩ = some (.int .i64 b.2) ∧ (W.cell? ⟨g0, 0, none⟩ = some (.int .i64 L.1) ∧ W.cell? ⟨g0, 1, none⟩ = some (.int .i64 L.2) ∧ W.cell? ⟨g0, 2, none⟩ = some (.int .i64 H.1) ∧ W.cell? ⟨g0, 3, none⟩ = some (.int .i64 H.2))) (first | exact cells_wfp (by assumption) HF0.out HF1.out | exact cells_wfp (Hold.drew (by assumption)) HF0.out HF1.out) ((go_at_call 37; (with_reducible refine (HCK.out _).mono ?_); rintro e w' ⟨rfl, hB⟩; have HS' := Hold.on (by first | assumption | exact Hold.drew (by assumption)) hB))
    go_wp2_with fail
    go_meet
    exact ⟨rfl, HS'⟩
   case rest =>
    obtain ⟨rfl, HB2⟩ := hcut
    clear HB HCK HC
    cases hc : cutV L H a b
    ·have HNX := Lib.hid (HNK.out hc)
     have HBK := Lib.hid HB2
     clear HYK HNK hc HB2 HE HSD
     go_wp2
     go_roundg (ps.length - (k + 1))
     case measure => have := HGK.out; omega
     case rel => exact ⟨k + 1, by omega, rfl, by go_num, HNX.out, HBK.out⟩
    ·have HX := Lib.hid (HYK.out hc)
     have HBK := Lib.hid HB2.1
     clear HYK HNK hc HB2 HE HSD
     go_wp2
     go_ret
     rw [HX.out]
     exact ⟨rfl, HBK.out⟩
  ·obtain rfl : k = ps.length := by omega
   have hrf : rimV L H ps = false := rimV_not.2 fun ⟨i, hi, h⟩ => HNO.out i hi h
   have HX : Hid (metV L H ps = decide (0 ≤ side ps L)) := by unfold Hid; rw [HE.out, hrf, Bool.or_false]
   clear HE hrf HNO HC HGD
   obtain ⟨c0, c1, c2, c3⟩ := HB.win (.head _)
   generalize side ps L = s at *
   go_wp2_with fail
   go_at_call 12
   refine (HSD.out _ _ HB).mono ?_
   rintro e w4 ⟨rfl, hB⟩
   have HBK := Lib.hid (HB.on hB).1
   clear hB HB c0 c1 c2 c3 HSD
   go_wp2
   go_ret
   rw [HX.out]
   exact ⟨rfl, HBK.out⟩
end Go.Proofs.YtoabooljgojoiaaGreat

namespace Go.Proofs.YtoabooljgojoiaaGreat
open Go.RowKit
theorem winL_par {l l' : List PV} (h : l'.map PV.par = l.map PV.par) (L H : Int × Int) : winL l' L H = winL l L H := by
 have key : ∀ l : List PV, (l.filter fun x => metV L H x.par.ring).map (fun x => x.par.id) = ((l.map PV.par).filter fun x => metV L H x.ring).map Par.id := fun l => by
  rw [List.filter_map, List.map_map]; rfl
 unfold winL
 rw [key, key, h]
set_option maxRecDepth 100000 in
set_option maxHeartbeats 4000000 in
theorem windows_walk (o : List (Int × Int)) (Ao : Option Addr) (co : Nat) (l : List PV) (Ap : Option Addr) (cp : Nat) (ho : o.length ≤ 8796093022208) (hown : ∀ x ∈ l, x.par.own.size ≤ maxLen) (L H : Int × Int) (w : World) (h : PlanAt w o Ao co l Ap cp) :
  Calls Tryz.prog 4 #[.agg #[.slice Ao o.length co, .slice Ap l.length cp], .agg #[.int .i64 L.1, .int .i64 L.2, .int .i64 H.1, .int .i64 H.2]] w fun e w' => e = .returned (.bool true) ∧ Below w.heap.size w w' := by
 have HQ := ((Hold.refl w).new #[.slice Ao o.length co, .slice Ap l.length cp] 26).new' #[.int .i64 L.1, .int .i64 L.2, .int .i64 H.1, .int .i64 H.2] 43 (n := w.heap.size + 1) (by simp)
 have HPA := Lib.hid (fun W (hb : Below w.heap.size w W) => h.on hb)
 have HPR := Lib.hid (fun W (hb : Below w.heap.size w W) => h.prs.on hb)
 have HO := Lib.hid ho
 have HOW := Lib.hid hown
 clear h ho hown
 go_enter Tryz.func4, Tryz.ntmps4
 go_upto_region 1 with (fail)
 generalize (World.alloc _ _) = W1 at HQ ⊢
 generalize w.heap.size + 1 = g1 at HQ ⊢
 obtain ⟨g0, hg0⟩ : ∃ g, w.heap.size = g := ⟨_, rfl⟩
 rw [hg0] at HQ ⊢
 have HG0 := Lib.hid hg0
 clear hg0
 have HIX := Lib.hid (qindex_any o Ao co l Ap cp HO.out HOW.out W1 (HPA.out W1 HQ.1))
 obtain ⟨c0, c1⟩ := HQ.pt (.tail _ (.head _))
 have HQ1 := Lib.hid HQ
 clear HQ
 go_wp2_with fail
 go_at_call 9
 refine HIX.out.mono ?_
 rintro e w2 (⟨rfl, hb2⟩ | ⟨b, m1, m2, l', rfl, hb2, hck, ⟨h8, h3⟩, hpar, hbo, hro, hst, -⟩)
 ·have HBE := Lib.hid (HQ1.out.on hb2).1
  clear hb2 HIX c0 c1
  go_wp2_with fail
  refine bodyPost_ret (v := .bool true) ?_ rfl ⟨rfl, HBE.out⟩
  simp [results, Tryz.results4, go_sem]
 ·obtain ⟨hs, hnorm⟩ := plan_sorted hck hpar
  have hnl := (plan_sorted hck (l' := l) rfl).2
  have hlo := Window_any b m1 m2 0 (by decide) l' hs (fun x hx => (hnorm x hx).1) L H w2 hro hst
  rw [winL_par hpar] at hlo
  have HLO := Lib.hid hlo
  have HB2 := Lib.hid hb2
  have HBO := Lib.hid hbo
  have H8 := Lib.hid h8
  have HNL := Lib.hid hnl
  have hq2 := HQ1.out.on hb2
  obtain ⟨d0, d1, d2, d3⟩ := hq2.win4
  clear c0 c1 hq2 hs hnorm hlo hb2 hbo h8 h3 hpar hro hst hck hnl HIX
  go_wp2_with fail
  go_at_call 14
  refine HLO.out.mono ?_
  rintro e w3 ⟨hg, -, A, cap, rfl, hit⟩
  have hb3 := HB2.out.grown hg HB2.out.size (fun k e => by obtain rfl := Option.some.inj e; exact HBO.out)
  have HB3 := Lib.hid hb3
  have HIT := Lib.hid hit
  have hq3 := HQ1.out.on hb3
  have HQ3 := Lib.hid hq3
  obtain ⟨e0, e1, e2, e3⟩ := hq3.win4
  clear d0 d1 d2 d3 hg hit hb3 hq3 HLO
  have HGO := Lib.hid (ref_windowOK L H w3)
  go_wp2_with fail
  go_at_call 15
  refine HGO.out.mono ?_
  rintro e w4 ⟨rfl, hb4'⟩
  have HQ4 := Lib.hid (HQ3.out.on hb4')
  have HI4 := Lib.hid (HIT.out.on hb4')
  clear hb4' e0 e1 e2 e3 HGO HIT
  by_cases he : wnE L H = 0
  rotate_left
  ·have hz : winL l L H = [] := if_neg he
   have HBE := Lib.hid HQ4.out.1
   have e0 : ¬ wnE L H = 0 := he
   rw [hz]
   clear hz HI4 he
   generalize wnE L H = k at *
   go_wp2_with fail
   refine bodyPost_ret (v := .bool true) ?_ rfl ⟨rfl, HBE.out⟩
   simp [results, Tryz.results4, go_sem]
  ·have HE := Lib.hid he
   have hz : winL l L H = (l.filter fun x => metV L H x.par.ring).map fun x => x.par.id := if_pos he
   have HZ := Lib.hid hz
   have HLZ : Hid ((winL l L H).length ≤ 1000000) := by
    unfold Hid
    rw [hz, List.length_map]
    have := List.length_filter_le (fun x : PV => metV L H x.par.ring) l
    have := H8.out
    omega
   rw [he]
   clear hz he
   generalize winL l L H = ll at *
   obtain ⟨f0, f1⟩ := HQ4.out.pt (.tail _ (.head _))
   have HV0 : RowI w4 3 1 encN (.slice none 0 0) (((l.take 0).filter fun x => metV L H x.par.ring).map fun x => x.par.id) w4 := RowI.nil (Below.refl _ _)
   go_wp2_with fail
   go_loopg [10, 11] l.length (fun g v i wr => ∃ k : Nat, k ≤ l.length ∧ g = l.length - k ∧ i = .int .i64 k ∧ RowI w4 3 1 encN v (((l.take k).filter fun x => metV L H x.par.ring).map fun x => x.par.id) wr)
   case atStart => exact ⟨0, Nat.zero_le _, rfl, rfl, HV0⟩
   case round =>
    clear HV0 f0 f1
    obtain ⟨k, hk, hgk, rfl, HV⟩ := hrel
    have HGK := Lib.hid hgk
    clear hgk
    by_cases hlt : k < l.length
    ·obtain ⟨ad, rfl, -⟩ := (HPR.out _ (HQ4.out.on HV.1).1).at hlt
     have HD : Hid (∀ W, Below w4.heap.size w4 W → (W.cell? ⟨g0, 0, none⟩ = some (.slice Ao o.length co) ∧ W.cell? ⟨g0, 1, none⟩ = some (.slice (some ad) l.length cp)) ∧ (W.cell? ⟨g1, 0, none⟩ = some (.int .i64 L.1) ∧ W.cell? ⟨g1, 1, none⟩ = some (.int .i64 L.2) ∧ W.cell? ⟨g1, 2, none⟩ = some (.int .i64 H.1) ∧ W.cell? ⟨g1, 3, none⟩ = some (.int .i64 H.2)) ∧ W.cell? (ad.add (k * 3)) = some (.int .i64 l[k].par.id) ∧ W.cell? ⟨(ad.add (k * 3)).block, (ad.add (k * 3)).off + 1, none⟩ = some (.slice l[k].A l[k].par.ring.length l[k].cap)) := fun W hB => by
      obtain ⟨ad', e, -, a0, a1, -⟩ := (HPR.out W (HQ4.out.on hB).1).at hlt
      obtain rfl := Option.some.inj e
      exact ⟨(HQ4.out.on hB).pt (.tail _ (.head _)), (HQ4.out.on hB).win4, a0, a1⟩
     have b0 : (0 : Int) ≤ (k : Int) := by omega
     have b1 : (k : Int) < (l.length : Int) := by omega
     have b6 : (l.length : Int) ≤ 80 := by have := H8.out; omega
     have hm := List.getElem_mem hlt
     have hnl := HNL.out l[k] hm
     have HSD := Lib.hid (fun W (hB : Below w4.heap.size w4 W) => ref_meets L H l[k].par.ring l[k].A l[k].cap HE.out hnl.1 (by have := (normP_small hnl).2.1; unfold maxLen; omega) W ((HPR.out W (HQ4.out.on hB).1).2 l[k] hm).1)
     have HTK : Hid (((l.take (k + 1)).filter fun x => metV L H x.par.ring).map (fun x => x.par.id) = ((l.take k).filter fun x => metV L H x.par.ring).map (fun x => x.par.id) ++ if metV L H l[k].par.ring = true then [l[k].par.id] else []) := by
      unfold Hid
      rw [List.take_succ_eq_append_getElem hlt, List.filter_append, List.map_append]
      by_cases hx : metV L H l[k].par.ring = true
      ·rw [List.filter_cons_of_pos (by simpa using hx), if_pos hx]; rfl
      ·rw [List.filter_cons_of_neg (by simpa using hx), if_neg hx]; rfl
     have HLK : Hid ((((l.take k).filter fun x => metV L H x.par.ring).map fun x => x.par.id).length ≤ 80) := by
      unfold Hid
      rw [List.length_map]
      have := List.length_filter_le (fun x : PV => metV L H x.par.ring) (l.take k)
      rw [List.length_take] at this
      have := H8.out
      omega
     obtain ⟨⟨q0, q1⟩, ⟨q2, q3, q6, q7⟩, q4, q5⟩ := HD.out wr HV.1
     generalize ((l.take k).filter fun x => metV L H x.par.ring).map (fun x => x.par.id) = es at *
     generalize l[k] = x at *
     generalize hsv : metV L H x.par.ring = sv at *
     clear hsv hnl hm
     have HVX := Lib.hid HV
     go_upto_region 12 with (fail)
     have hz := HVX.out.1.drew
     have hy := HVX.out.on ((Below.refl wr.heap.size wr).drew)
     have HY := Lib.hid hy
     clear q0 q1 q2 q3 q4 q5 q6 q7 HV hy
     refine wp_region_held_drew (S := fun W => (W.cell? ⟨g0, 0, none⟩ = some (.slice Ao o.length co) ∧ W.cell? ⟨g0, 1, none⟩ = some (.slice (some ad) l.length cp)) ∧ (W.cell? ⟨g1, 0, none⟩ = some (.int .i64 L.1) ∧ W.cell? ⟨g1, 1, none⟩ = some (.int .i64 L.2) ∧ W.cell? ⟨g1, 2, none⟩ = some (.int .i64 H.1) ∧ W.cell? ⟨g1, 3, none⟩ = some (.int .i64 H.2)) ∧ W.cell? (ad.add (k * 3)) = some (.int .i64 x.par.id) ∧ W.cell? ⟨(ad.add (k * 3)).block, (ad.add (k * 3)).off + 1, none⟩ = some (.slice x.A x.par.ring.length x.cap)) (by kernel_rfl) ?_ (fun hHeld => ?_)
     ·(try dsimp only)
      exact HD.out _ hz
     refine tZ 0 ?_; refine tZ 1 ?_; refine tZ 2 ?_; refine tZ 3 ?_; refine tZ 4 ?_; refine tZ 5 ?_; refine tZ 6 ?_
     refine wpAnyH_ready (rs := [7]) (by decide +kernel) (by simp) ?_
     refine AllReadyH.cons rfl (fun K hK => ?_) AllReadyH.nil
     (try simp only [jA, jB, jC])
     go_simp
     go_at_call 16; refine (HSD.out _ hz).mono ?_; rintro e' W7 ⟨rfl, hB⟩; have hv7 := HY.out.on hB; have hz2 := hv7.1; clear hB
     refine hK.out _ _ ?_ (fun hHeld => ?_)
     focus ((try dsimp only); exact HD.out _ hz2; done)
     clear hK K
     (try simp only [Act.put, jA, jB, jC, jD, jE, jF])
     refine wpAnyH_done (by decide +kernel) ?_ _
     have HV7 := Lib.hid hv7
     obtain ⟨⟨q0, q1⟩, ⟨q2, q3, q6, q7⟩, q4, q5⟩ := HD.out W7 hz2
     clear hz hz2 hHeld hv7 HVX HY HSD
     by_cases hx : sv = true
     ·have HX : Hid ((((l.take (k + 1)).filter fun x => metV L H x.par.ring).map fun x => x.par.id) = es ++ [x.par.id]) := by
       unfold Hid
       rw [HTK.out, if_pos hx]
      clear HTK
      subst hx
      go_wp2_with (at_builtin; go_must (refine append_item kindN Tryz.underlying32 HV7.out x.par.id 3 (cs := #[.int .i64 x.par.id]) rfl (by have := HLK.out; unfold maxLen; omega) (by have := HLK.out; omega) rfl _ _ rfl rfl 1 rfl ?_; intro v9 w9 hr9; have HR9 := Lib.hid hr9; clear hr9))
      go_roundg (l.length - (k + 1))
      case measure => have := HGK.out; omega
      case rel => exact ⟨k + 1, by omega, rfl, by go_num, by rw [HX.out]; exact HR9.out⟩
     ·have HX : Hid ((((l.take (k + 1)).filter fun x => metV L H x.par.ring).map fun x => x.par.id) = es) := by
       unfold Hid
       rw [HTK.out, if_neg hx, List.append_nil]
      clear HTK
      obtain rfl : sv = false := by simpa using hx
      go_wp2_with fail
      go_roundg (l.length - (k + 1))
      case measure => have := HGK.out; omega
      case rel => exact ⟨k + 1, by omega, rfl, by go_num, by rw [HX.out]; exact HV7.out⟩
    ·obtain rfl : k = l.length := by omega
     rw [List.take_length, ← HZ.out] at HV
     obtain ⟨A7, c7, rfl, i7, -⟩ := HV.items
     have hsi := ref_ints ll ll A A7 cap c7 HLZ.out wr (HI4.out.on HV.1) i7
     rw [decide_eq_true rfl] at hsi
     have HSI := Lib.hid hsi
     have HQ9 := Lib.hid (HQ4.out.on HV.1)
     have q1 := (HQ9.out.pt (.tail _ (.head _))).2
     have b1 : ¬ ((l.length : Nat) : Int) < (l.length : Int) := by omega
     clear HV i7 hsi HI4
     go_wp2_with fail
     go_at_call 13
     refine HSI.out.mono ?_
     rintro e' W9 ⟨rfl, hB⟩
     have HBE := Lib.hid (HQ9.out.on hB).1
     clear hB q1
     go_wp2_with fail
     refine bodyPost_ret (v := .bool true) ?_ rfl ⟨rfl, HBE.out⟩
     simp [results, Tryz.results4, go_sem]
end Go.Proofs.YtoabooljgojoiaaGreat
