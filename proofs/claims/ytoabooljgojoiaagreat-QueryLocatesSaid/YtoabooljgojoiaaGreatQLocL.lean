/- The document's SameInts, and the walk of the law QueryLocates. -/
import Derived.Test.YtoabooljgojoiaaGreatRefFine
import Derived.Test.YtoabooljgojoiaaGreatQInd
/- The document's own SameInts. -/
namespace Go.Proofs.YtoabooljgojoiaaGreat
open Go.RowKit

theorem takes_same {xs ys : List Int} {k : Nat} (h1 : k < xs.length) (h2 : k < ys.length) (h : xs.take k = ys.take k) (e : xs[k] = ys[k]) : xs.take (k + 1) = ys.take (k + 1) := by
 rw [List.take_succ_eq_append_getElem h1, List.take_succ_eq_append_getElem h2, h, e]
set_option maxRecDepth 100000 in
set_option maxHeartbeats 1000000 in
theorem ref_ints (xs ys : List Int) (A B : Option Addr) (ca cb : Nat) (hn : xs.length ≤ 1000000) (w : World) (ha : Items w w.heap.size A encN xs) (hb : Items w w.heap.size B encN ys) :
  Calls Tryz.prog 13 #[.slice A xs.length ca, .slice B ys.length cb] w fun e w' => e = .returned (.bool (decide (xs = ys))) ∧ Below w.heap.size w w' := by
 have HA := Lib.hid (fun W (h : Below w.heap.size w W) => ha.on h)
 have HB := Lib.hid (fun W (h : Below w.heap.size w W) => hb.on h)
 have HN := Lib.hid hn
 have HB0 := Hold.refl w
 clear ha hb hn
 go_enter Tryz.func13, Tryz.ntmps13
 go_wp2_with fail
 go_loopg [5] xs.length (fun g i wr => ∃ k : Nat, k ≤ xs.length ∧ k ≤ ys.length ∧ g = xs.length - k ∧ i = .int .i64 k ∧ xs.take k = ys.take k ∧ Hold w [] wr)
 case atStart => exact ⟨0, Nat.zero_le _, Nat.zero_le _, rfl, rfl, rfl, HB0⟩
 case round =>
  clear HB0
  obtain ⟨k, hk1, hk2, hgk, rfl, htk, HW⟩ := hrel
  have HGK := Lib.hid hgk
  have HTK := Lib.hid htk
  clear hgk htk
  have b0 : (0 : Int) ≤ (k : Int) := by omega
  by_cases h1 : k < xs.length
  ·have b1 : (k : Int) < (xs.length : Int) := by omega
   have b9 : (xs.length : Int) ≤ 1000000 := by have := HN.out; omega
   by_cases h2 : k < ys.length
   ·obtain ⟨ad, rfl, -, d0, -⟩ := (HA.out _ HW.1).at kindN.len h1
    obtain ⟨ae, rfl, -, d1, -⟩ := (HB.out _ HW.1).at kindN.len h2
    have d0 := d0 _ (by decide) rfl
    have d1 := d1 _ (by decide) rfl
    rw [Nat.mul_one] at d0 d1
    have b2 : (k : Int) < (ys.length : Int) := by omega
    have HS := Lib.hid (takes_same h1 h2 HTK.out)
    have HNE : Hid (xs[k] ≠ ys[k] → decide (xs = ys) = false) := fun h => decide_eq_false fun e => h (by simp only [e])
    clear HA HB HTK
    generalize xs[k] = a at *
    generalize ys[k] = b at *
    go_upto_region 4 with (fail)
    by_cases h3 : a = b
    ·have HT := Lib.hid (HS.out h3)
     have e1 : (a == b) = true := by simpa using h3
     have e2 : (a != b) = false := by simpa using h3
     clear HS HNE h3
     go_quiet (fail)
     have HK := Lib.hid (HW.drewN nq)
     clear HW
     go_wp2
     go_roundg (xs.length - (k + 1))
     case measure => have := HGK.out; omega
     case rel => exact ⟨k + 1, by omega, by omega, rfl, by go_num, HT.out, HK.out⟩
    ·have HF := Lib.hid (HNE.out h3)
     have e1 : (a == b) = false := by simpa using h3
     have e2 : (a != b) = true := by simpa using h3
     clear HS HNE h3
     go_quiet (fail)
     have HK := Lib.hid (HW.drewN nq).1
     clear HW
     go_wp2
     go_ret
     rw [HF.out]
     exact ⟨rfl, HK.out⟩
   ·have b2 : ¬ (k : Int) < (ys.length : Int) := by omega
    have HF : Hid (decide (xs = ys) = false) := decide_eq_false fun e => by rw [e] at h1; omega
    have e1 : ((xs.length : Int) == (ys.length : Int)) = false := by simp; omega
    have HK := Lib.hid HW.1
    clear HA HB HTK HW h1 h2
    go_wp2
    go_ret
    rw [HF.out]
    exact ⟨rfl, HK.out⟩
  ·have b1 : ¬ (k : Int) < (xs.length : Int) := by omega
   have hk : k = xs.length := by omega
   have HK := Lib.hid HW.1
   by_cases h2 : xs.length = ys.length
   ·have HF : Hid (decide (xs = ys) = true) := decide_eq_true (by
     have := HTK.out
     rw [hk, List.take_length, h2, List.take_length] at this
     exact this)
    have e1 : ((xs.length : Int) == (ys.length : Int)) = true := by simp; omega
    clear HA HB HTK HW h1 h2 hk hk1 hk2
    go_wp2
    go_ret
    rw [HF.out]
    exact ⟨rfl, HK.out⟩
   ·have HF : Hid (decide (xs = ys) = false) := decide_eq_false fun e => h2 (by rw [e])
    have e1 : ((xs.length : Int) == (ys.length : Int)) = false := by simp; omega
    clear HA HB HTK HW h1 h2 hk hk1 hk2
    go_wp2
    go_ret
    rw [HF.out]
    exact ⟨rfl, HK.out⟩
end Go.Proofs.YtoabooljgojoiaaGreat

namespace Go.Proofs.YtoabooljgojoiaaGreat
open Go.RowKit
theorem locL_par {l l' : List PV} (h : l'.map PV.par = l.map PV.par) (p : Int × Int) : locL l' p = locL l p := by
 have key : ∀ l : List PV, (l.filter fun x => decide (0 ≤ side x.par.ring p)).map (fun x => x.par.id) = ((l.map PV.par).filter fun x => decide (0 ≤ side x.ring p)).map Par.id := fun l => by
  rw [List.filter_map, List.map_map]; rfl
 unfold locL
 rw [key, key, h]
theorem plan_sorted {o : List (Int × Int)} {l l' : List PV} (h : chkB o l = true) (hp : l'.map PV.par = l.map PV.par) : (l'.Pairwise fun a b => a.par.id < b.par.id) ∧ ∀ x ∈ l', NormP x.par.ring := by
 have hq := chkB_plan.1 h
 rw [← hp] at hq
 have h1 := hq.fine.1
 rw [List.pairwise_map] at h1
 exact ⟨h1, fun x hx => hq.each x.par (List.mem_map_of_mem hx)⟩
set_option maxRecDepth 100000 in
set_option maxHeartbeats 4000000 in
theorem locates_walk (o : List (Int × Int)) (Ao : Option Addr) (co : Nat) (l : List PV) (Ap : Option Addr) (cp : Nat) (ho : o.length ≤ 8796093022208) (hown : ∀ x ∈ l, x.par.own.size ≤ maxLen) (p : Int × Int) (w : World) (h : PlanAt w o Ao co l Ap cp) :
  Calls Tryz.prog 3 #[.agg #[.slice Ao o.length co, .slice Ap l.length cp], .agg #[.int .i64 p.1, .int .i64 p.2]] w fun e w' => e = .returned (.bool true) ∧ Below w.heap.size w w' := by
 have HQ := ((Hold.refl w).new #[.slice Ao o.length co, .slice Ap l.length cp] 26).new' #[.int .i64 p.1, .int .i64 p.2] 28 (n := w.heap.size + 1) (by simp)
 have HPA := Lib.hid (fun W (hb : Below w.heap.size w W) => h.on hb)
 have HPR := Lib.hid (fun W (hb : Below w.heap.size w W) => h.prs.on hb)
 have HO := Lib.hid ho
 have HOW := Lib.hid hown
 clear h ho hown
 go_enter Tryz.func3, Tryz.ntmps3
 go_upto_region 1 with (fail)
 generalize (World.alloc _ _) = W1 at HQ ⊢
 generalize w.heap.size + 1 = g1 at HQ ⊢
 obtain ⟨g0, hg0⟩ : ∃ g, w.heap.size = g := ⟨_, rfl⟩
 rw [hg0] at HQ ⊢
 have HG0 := Lib.hid hg0
 clear hg0
 have HIX := Lib.hid (qindex_any o Ao co l Ap cp HO.out HOW.out W1 (HPA.out W1 HQ.1))
 obtain ⟨c0, c1⟩ := HQ.pt (.tail _ (.head _))
 have HQ1 := Lib.hid HQ
 clear HQ
 go_wp2_with fail
 go_at_call 9
 refine HIX.out.mono ?_
 rintro e w2 (⟨rfl, hb2⟩ | ⟨b, m1, m2, l', rfl, hb2, hck, ⟨h8, h3⟩, hpar, hbo, hro, hst, -⟩)
 ·have HBE := Lib.hid (HQ1.out.on hb2).1
  clear hb2 HIX c0 c1
  go_wp2_with fail
  refine bodyPost_ret (v := .bool true) ?_ rfl ⟨rfl, HBE.out⟩
  simp [results, Tryz.results3, go_sem]
 ·obtain ⟨hs, hnorm⟩ := plan_sorted hck hpar
  have hnl := (plan_sorted hck (l' := l) rfl).2
  have hlo := Locate_any b m1 m2 0 (by decide) l' hs (fun x hx => (hnorm x hx).1) p w2 hro hst
  rw [locL_par hpar] at hlo
  have HLO := Lib.hid hlo
  have HB2 := Lib.hid hb2
  have HBO := Lib.hid hbo
  have H8 := Lib.hid h8
  have HNL := Lib.hid hnl
  have hq2 := HQ1.out.on hb2
  obtain ⟨d0, d1⟩ := hq2.pt (.head _)
  clear c0 c1 hq2 hs hnorm hlo hb2 hbo h8 h3 hpar hro hst hck hnl HIX
  go_wp2_with fail
  go_at_call 10
  refine HLO.out.mono ?_
  rintro e w3 ⟨hg, -, A, cap, rfl, hit⟩
  have hb3 := HB2.out.grown hg HB2.out.size (fun k e => by obtain rfl := Option.some.inj e; exact HBO.out)
  have HB3 := Lib.hid hb3
  have HIT := Lib.hid hit
  have hq3 := HQ1.out.on hb3
  have HQ3 := Lib.hid hq3
  obtain ⟨e0, e1⟩ := hq3.pt (.head _)
  clear d0 d1 hg hit hb3 hq3 HLO
  have HGO := Lib.hid (ref_good_one p 1 w3 28)
  go_wp2_with fail
  go_at_call 11
  refine HGO.out.mono ?_
  rintro e w4 ⟨rfl, hb4⟩
  have hb4' := ((Below.refl w3.heap.size w3).alloc (Nat.le_refl _) (Obj.cells #[.int .i64 p.1, .int .i64 p.2] 28 (0, 0))).trans (hb4.mono (Nat.le_succ _))
  have HB4 := Lib.hid hb4'
  have HQ4 := Lib.hid (HQ3.out.on hb4')
  have HI4 := Lib.hid (HIT.out.on hb4')
  clear hb4 hb4' e0 e1 HGO HIT
  cases hp : gd p
  ·have hz : locL l p = [] := by unfold locL; rw [hp]; rfl
   have HBE := Lib.hid HQ4.out.1
   rw [show gdL [p] = false by simp [gdL, hp], hz, (at_bad hp).2]
   clear hz HI4
   go_wp2_with fail
   refine bodyPost_ret (v := .bool true) ?_ rfl ⟨rfl, HBE.out⟩
   simp [results, Tryz.results3, go_sem]
  ·have hpg := gd_iff.1 hp
   have HPG := Lib.hid hpg
   have hz : locL l p = (l.filter fun x => decide (0 ≤ side x.par.ring p)).map fun x => x.par.id := if_pos hp
   have HZ := Lib.hid hz
   have HLZ : Hid ((locL l p).length ≤ 1000000) := by
    unfold Hid
    rw [hz, List.length_map]
    have := List.length_filter_le (fun x : PV => decide (0 ≤ side x.par.ring p)) l
    have := H8.out
    omega
   rw [show gdL [p] = true by simp [gdL, hp], (at_good hp).2]
   clear hz hpg hp
   generalize locL l p = ll at *
   obtain ⟨f0, f1⟩ := HQ4.out.pt (.tail _ (.head _))
   have HV0 : RowI w4 3 1 encN (.slice none 0 0) (((l.take 0).filter fun x => decide (0 ≤ side x.par.ring p)).map fun x => x.par.id) w4 := RowI.nil (Below.refl _ _)
   go_wp2_with fail
   go_loopg [9, 10] l.length (fun g v i wr => ∃ k : Nat, k ≤ l.length ∧ g = l.length - k ∧ i = .int .i64 k ∧ RowI w4 3 1 encN v (((l.take k).filter fun x => decide (0 ≤ side x.par.ring p)).map fun x => x.par.id) wr)
   case atStart => exact ⟨0, Nat.zero_le _, rfl, rfl, HV0⟩
   case round =>
    clear HV0 f0 f1
    obtain ⟨k, hk, hgk, rfl, HV⟩ := hrel
    have HGK := Lib.hid hgk
    clear hgk
    by_cases hlt : k < l.length
    ·obtain ⟨ad, rfl, -⟩ := (HPR.out _ (HQ4.out.on HV.1).1).at hlt
     have HD : Hid (∀ W, Below w4.heap.size w4 W → (W.cell? ⟨g0, 0, none⟩ = some (.slice Ao o.length co) ∧ W.cell? ⟨g0, 1, none⟩ = some (.slice (some ad) l.length cp)) ∧ (W.cell? ⟨g1, 0, none⟩ = some (.int .i64 p.1) ∧ W.cell? ⟨g1, 1, none⟩ = some (.int .i64 p.2)) ∧ W.cell? (ad.add (k * 3)) = some (.int .i64 l[k].par.id) ∧ W.cell? ⟨(ad.add (k * 3)).block, (ad.add (k * 3)).off + 1, none⟩ = some (.slice l[k].A l[k].par.ring.length l[k].cap)) := fun W hB => by
      obtain ⟨ad', e, -, a0, a1, -⟩ := (HPR.out W (HQ4.out.on hB).1).at hlt
      obtain rfl := Option.some.inj e
      exact ⟨(HQ4.out.on hB).pt (.tail _ (.head _)), (HQ4.out.on hB).pt (.head _), a0, a1⟩
     have b0 : (0 : Int) ≤ (k : Int) := by omega
     have b1 : (k : Int) < (l.length : Int) := by omega
     have b6 : (l.length : Int) ≤ 80 := by have := H8.out; omega
     have hm := List.getElem_mem hlt
     have hnl := HNL.out l[k] hm
     have HSD := Lib.hid (fun W (hB : Below w4.heap.size w4 W) => ref_side l[k].par.ring l[k].A l[k].cap p (by have := (normP_small hnl).2.1; unfold maxLen; omega) (gdL_iff.2 (normP_small hnl).2.2) HPG.out W ((HPR.out W (HQ4.out.on hB).1).2 l[k] hm).1)
     have HTK : Hid (((l.take (k + 1)).filter fun x => decide (0 ≤ side x.par.ring p)).map (fun x => x.par.id) = ((l.take k).filter fun x => decide (0 ≤ side x.par.ring p)).map (fun x => x.par.id) ++ if 0 ≤ side l[k].par.ring p then [l[k].par.id] else []) := by
      unfold Hid
      rw [List.take_succ_eq_append_getElem hlt, List.filter_append, List.map_append]
      by_cases hx : 0 ≤ side l[k].par.ring p
      ·rw [List.filter_cons_of_pos (by simpa using hx), if_pos hx]; rfl
      ·rw [List.filter_cons_of_neg (by simpa using hx), if_neg hx]; rfl
     have HLK : Hid ((((l.take k).filter fun x => decide (0 ≤ side x.par.ring p)).map fun x => x.par.id).length ≤ 80) := by
      unfold Hid
      rw [List.length_map]
      have := List.length_filter_le (fun x : PV => decide (0 ≤ side x.par.ring p)) (l.take k)
      rw [List.length_take] at this
      have := H8.out
      omega
     obtain ⟨⟨q0, q1⟩, ⟨q2, q3⟩, q4, q5⟩ := HD.out wr HV.1
     generalize ((l.take k).filter fun x => decide (0 ≤ side x.par.ring p)).map (fun x => x.par.id) = es at *
     generalize l[k] = x at *
     generalize hsv : side x.par.ring p = sv at *
     clear hsv hnl hm
     have HVX := Lib.hid HV
     go_upto_region 11 with (fail)
     have hz := HVX.out.1.drew
     have hy := HVX.out.on ((Below.refl wr.heap.size wr).drew)
     have HY := Lib.hid hy
     clear q0 q1 q2 q3 q4 q5 HV hy
     refine wp_region_held_drew (S := fun W => (W.cell? ⟨g0, 0, none⟩ = some (.slice Ao o.length co) ∧ W.cell? ⟨g0, 1, none⟩ = some (.slice (some ad) l.length cp)) ∧ (W.cell? ⟨g1, 0, none⟩ = some (.int .i64 p.1) ∧ W.cell? ⟨g1, 1, none⟩ = some (.int .i64 p.2)) ∧ W.cell? (ad.add (k * 3)) = some (.int .i64 x.par.id) ∧ W.cell? ⟨(ad.add (k * 3)).block, (ad.add (k * 3)).off + 1, none⟩ = some (.slice x.A x.par.ring.length x.cap)) (by kernel_rfl) ?_ (fun hHeld => ?_)
     ·(try dsimp only)
      exact HD.out _ hz
     refine tZ 0 ?_; refine tZ 1 ?_; refine tZ 2 ?_; refine tZ 3 ?_; refine tZ 4 ?_; refine tZ 5 ?_; refine tZ 6 ?_
     refine wpAnyH_ready (rs := [7]) (by decide +kernel) (by simp) ?_
     refine AllReadyH.cons rfl (fun K hK => ?_) AllReadyH.nil
     (try simp only [jA, jB, jC])
     go_simp
     go_at_call 12; refine (HSD.out _ hz).mono ?_; rintro e' W7 ⟨rfl, hB⟩; have hv7 := HY.out.on hB; have hz2 := hv7.1; clear hB
     refine hK.out _ _ ?_ (fun hHeld => ?_)
     focus ((try dsimp only); exact HD.out _ hz2; done)
     clear hK K
     (try simp only [Act.put, jA, jB, jC, jD, jE, jF])
     refine tZ 8 ?_
     refine wpAnyH_done (by decide +kernel) ?_ _
     have HV7 := Lib.hid hv7
     obtain ⟨⟨q0, q1⟩, ⟨q2, q3⟩, q4, q5⟩ := HD.out W7 hz2
     clear hz hz2 hHeld hv7 HVX HY HSD
     by_cases hx : 0 ≤ sv
     ·have HX : Hid ((((l.take (k + 1)).filter fun x => decide (0 ≤ side x.par.ring p)).map fun x => x.par.id) = es ++ [x.par.id]) := by
       unfold Hid
       rw [HTK.out, if_pos hx]
      clear HTK
      go_wp2_with (at_builtin; go_must (refine append_item kindN Tryz.underlying32 HV7.out x.par.id 3 (cs := #[.int .i64 x.par.id]) rfl (by have := HLK.out; unfold maxLen; omega) (by have := HLK.out; omega) rfl _ _ rfl rfl 1 rfl ?_; intro v9 w9 hr9; have HR9 := Lib.hid hr9; clear hr9))
      go_roundg (l.length - (k + 1))
      case measure => have := HGK.out; omega
      case rel => exact ⟨k + 1, by omega, rfl, by go_num, by rw [HX.out]; exact HR9.out⟩
     ·have HX : Hid ((((l.take (k + 1)).filter fun x => decide (0 ≤ side x.par.ring p)).map fun x => x.par.id) = es) := by
       unfold Hid
       rw [HTK.out, if_neg hx, List.append_nil]
      clear HTK
      go_wp2_with fail
      go_roundg (l.length - (k + 1))
      case measure => have := HGK.out; omega
      case rel => exact ⟨k + 1, by omega, rfl, by go_num, by rw [HX.out]; exact HV7.out⟩
    ·obtain rfl : k = l.length := by omega
     rw [List.take_length, ← HZ.out] at HV
     obtain ⟨A7, c7, rfl, i7, -⟩ := HV.items
     have hsi := ref_ints ll ll A A7 cap c7 HLZ.out wr (HI4.out.on HV.1) i7
     rw [decide_eq_true rfl] at hsi
     have HSI := Lib.hid hsi
     have HQ9 := Lib.hid (HQ4.out.on HV.1)
     have q1 := (HQ9.out.pt (.tail _ (.head _))).2
     have b1 : ¬ ((l.length : Nat) : Int) < (l.length : Int) := by omega
     clear HV i7 hsi HI4
     go_wp2_with fail
     go_at_call 13
     refine HSI.out.mono ?_
     rintro e' W9 ⟨rfl, hB⟩
     have HBE := Lib.hid (HQ9.out.on hB).1
     clear hB q1
     go_wp2_with fail
     refine bodyPost_ret (v := .bool true) ?_ rfl ⟨rfl, HBE.out⟩
     simp [results, Tryz.results3, go_sem]
end Go.Proofs.YtoabooljgojoiaaGreat
