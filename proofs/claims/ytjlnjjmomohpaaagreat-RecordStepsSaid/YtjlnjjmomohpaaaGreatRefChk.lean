/- The document's Check of a plan: its walk. -/
import Derived.Test.YtjlnjjmomohpaaaGreatRefFine
namespace Go.Proofs.YtjlnjjmomohpaaaGreat
open Go.RowKit

set_option maxRecDepth 100000 in
set_option maxHeartbeats 20000000 in
theorem ref_chk (o : List (Int × Int)) (Ao : Option Addr) (co : Nat) (l : List PV) (Ap : Option Addr) (cp : Nat) (hn : l.length ≤ 1000000) (ho : o.length ≤ 1000000000) (hown : ∀ x ∈ l, x.par.own.size ≤ maxLen) (w : World) (hr : Prs w Ap l) (hro : Pts w w.heap.size Ao o) :
  Calls Tryz.prog 13 #[.agg #[.slice Ao o.length co, .slice Ap l.length cp]] w fun e' w' => e' = .returned (.bool (chkB o l)) ∧ Below w.heap.size w w' := by
 have HR := Lib.hid (fun K W (h : Hold w K W) => hr.on h.1)
 have HRO := Lib.hid (fun K W (h : Hold w K W) => hro.on h.1)
 have HF := Lib.hid (fun K W (h : Hold w K W) => ref_fine o Ao co l Ap cp hn (by omega) hown W (hr.on h.1))
 have HN := Lib.hid (fun K W (h : Hold w K W) => ref_normed o Ao co (by unfold maxLen; omega) ho W (hro.on h.1))
 have HQ := (Hold.refl w).new #[.slice Ao o.length co, .slice Ap l.length cp] 26
 clear hr hown ho hro
 go_enter Tryz.func13, Tryz.ntmps13
 go_upto_region 1 with (fail)
 generalize (World.alloc _ _) = W1 at HQ ⊢
 obtain ⟨g0, hg0⟩ : ∃ g, w.heap.size = g := ⟨_, rfl⟩
 rw [hg0] at HQ ⊢
 have HG0 := Lib.hid hg0
 clear hg0
 obtain ⟨c0, c1⟩ := HQ.pt (.head _)
 go_wp2_with fail
 go_at_call 31
 refine (HF.out _ _ HQ).mono ?_
 rintro e w1 ⟨rfl, hB⟩
 replace HQ := HQ.on hB
 clear hB c0 c1 HF
 by_cases hf : FineP o l
 ·rw [fineB_iff.2 hf]
  have HFP := Lib.hid hf
  clear hf
  obtain ⟨c0, c1⟩ := HQ.pt (.head _)
  go_wp2_with fail
  go_at_call 32
  refine (HN.out _ _ HQ).mono ?_
  rintro e w2 ⟨b, rfl, hb, hB⟩
  replace HQ := HQ.on hB
  clear hB c0 c1 HN
  cases b
  ·have HE : Hid (chkB o l = false) := chkB_not.2 fun h => by have := hb.2 h.2.1; cases this
   have HK := Lib.hid HQ.1
   clear hb HQ HR HRO
   go_wp2
   go_ret
   rw [HE.out]
   exact ⟨rfl, HK.out⟩
  ·have HNO : Hid (NormP o) := hb.1 rfl
   clear hb
   have HQ1 := HQ.new #[.int .i64 0, .int .u64 0] 67
   obtain ⟨c0, c1⟩ := HQ.pt (.head _)
   go_upto_region 4 with (fail)
   generalize (World.alloc w2 _) = W3 at HQ1 ⊢
   generalize w2.heap.size = g3 at HQ1 ⊢
   clear c0 c1 HQ
   go_wp2_with fail
   go_loopg [4] l.length (fun g i wr => ∃ k : Nat, k ≤ l.length ∧ g = l.length - k ∧ i = .int .i64 k ∧ (∀ x ∈ l.take k, NormP x.par.ring) ∧ (-((k : Int) * (128 * 2305843009213693952)) ≤ areaS l k ∧ areaS l k ≤ (k : Int) * (128 * 2305843009213693952)) ∧ Hold w [(g3, #[.int .i64 (hiOf (areaS l k)), .int .u64 (loOf (areaS l k))], 67), (g0, #[.slice Ao o.length co, .slice Ap l.length cp], 26)] wr)
   case atStart => exact ⟨0, Nat.zero_le _, rfl, rfl, fun x hx => by simp at hx, ⟨by simp [areaS], by simp [areaS]⟩, HQ1⟩
   case round =>
    clear HQ1
    obtain ⟨k, hk, hgk, rfl, hno, hlim, HB⟩ := hrel
    have HGK := Lib.hid hgk
    have HNL := Lib.hid hno
    have HLM := Lib.hid hlim
    clear hgk hno hlim
    by_cases hlt : k < l.length
    ·have hw := HR.out _ _ HB
     obtain ⟨ad, hA, -, -, d1, -⟩ := hw.at hlt
     have HAD := Lib.hid hA
     subst hA
     obtain ⟨c0, c1⟩ := HB.pt (.tail _ (.head _))
     have hx : l[k]? = some l[k] := List.getElem?_eq_getElem hlt
     have hlen : l[k].par.ring.length ≤ 1024 := by
      have h1 := ring_le (o := o) k _ hx
      have h2 := cornN_mono (o := o) (l := l) (show k + 1 ≤ l.length by omega)
      have := HFP.out.2.2.2
      omega
     have HX := Lib.hid hx
     have HXA := Lib.hid (areaS_succ hx)
     have HNM := Lib.hid (fun K W (h : Hold w K W) => ref_normed l[k].par.ring l[k].A l[k].cap (by unfold maxLen; omega) (by omega) W ((HR.out _ _ h).2 l[k] (List.getElem_mem hlt)).1)
     have HAR := Lib.hid (fun K W (h : Hold w K W) => ref_area l[k].par.ring l[k].A l[k].cap (by unfold maxLen; omega) W ((HR.out _ _ h).2 l[k] (List.getElem_mem hlt)).1)
     have HBAD : Hid (¬ NormP l[k].par.ring → chkB o l = false) := fun h => chkB_not.2 fun hc => h (hc.2.2.1 _ (List.getElem_mem hlt))
     have HNX : Hid (NormP l[k].par.ring → ∀ x ∈ l.take (k + 1), NormP x.par.ring) := fun h x hx => by
      rw [List.take_succ_eq_append_getElem hlt, List.mem_append, List.mem_singleton] at hx
      rcases hx with hx | rfl
      ·exact HNL.out x hx
      ·exact h
     have HC := Lib.hid (fun K W (h : Hold w K W) => (Prs.cells HAD.out (HR.out _ _ h) HX.out (Below.refl _ W)).2.1)
     have b0 : (0 : Int) ≤ (k : Int) := by omega
     have b1 : (k : Int) < (l.length : Int) := by omega
     have z4 := wrap_in (n := (k : Int)) (by omega) (by omega)
     clear hw hx hlen HNL
     generalize l[k].A = Ak at *
     generalize l[k].cap = ck at *
     generalize l[k].par.ring = ps at *
     go_wp2_with fail
     go_at_call 32
     refine (HNM.out _ _ HB).mono ?_
     rintro e w4 ⟨b, rfl, hb, hB⟩
     replace HB := HB.on hB
     clear hB c0 c1 d1 HNM
     cases b
     ·have HE : Hid (chkB o l = false) := HBAD.out fun h => by have := hb.2 h; cases this
      have HK := Lib.hid HB.1
      clear hb HB HR HRO HBAD HNX HAR HC HLM
      go_wp2
      go_ret
      rw [HE.out]
      exact ⟨rfl, HK.out⟩
     ·have hnp : NormP ps := hb.1 rfl
      have HNP := Lib.hid (HNX.out hnp)
      have ha := arHL hnp.1
      have hal := area_lim hnp.1
      have hlm := HLM.out
      rw [ha.1, ha.2.1, ha.2.2] at HAR
      have i1 : InR (areaS l k) := by have := HFP.out.2.2.1; unfold InR; omega
      have i2 : InR (area ps) := by unfold InR; omega
      have i3 : InR (areaS l k + area ps) := by have := HFP.out.2.2.1; unfold InR; omega
      have hadd := add_of i1 i2 i3
      have HAD2 := Lib.hid (fun W => ref_add (hiOf (areaS l k)) (loOf (areaS l k)) (hiOf (area ps)) (loOf (area ps)) (wf_of i1) (wf_of i2) W)
      rw [hadd.1, hadd.2.1, hadd.2.2] at HAD2
      have HLM2 : Hid (-(((k + 1 : Nat) : Int) * (128 * 2305843009213693952)) ≤ areaS l (k + 1) ∧ areaS l (k + 1) ≤ ((k + 1 : Nat) : Int) * (128 * 2305843009213693952)) := by
       unfold Hid; rw [HXA.out]; omega
      clear hb hnp ha hal hlm i1 i2 i3 hadd HBAD HNX HLM
      rw [← HXA.out] at HAD2
      obtain ⟨c0, c1⟩ := HB.pt (.tail _ (.head _))
      have d1 := HC.out _ _ HB
      go_wp2_with fail
      go_at_call 33
      refine (HAR.out _ _ HB).mono ?_
      rintro e w5 ⟨rfl, hB⟩
      have HB5 := (HB.on hB).new #[.int .i64 (hiOf (area ps)), .int .u64 (loOf (area ps))] 67
      clear hB c0 c1 d1 HB HC HAR
      go_upto_region 10 with (fail)
      generalize (World.alloc w5 _) = W6 at HB5 ⊢
      generalize w5.heap.size = g5 at HB5 ⊢
      obtain ⟨e0, e1⟩ := HB5.pt (.tail _ (.head _))
      obtain ⟨e2, e3⟩ := HB5.pt (.head _)
      go_wp2_with fail
      go_at_call 34
      refine (HAD2.out _).mono ?_
      rintro e w7 ⟨rfl, hB⟩
      replace HB5 := HB5.on hB
      clear hB e0 e1 e2 e3 HAD2
      obtain ⟨e0, e1⟩ := HB5.pt (.tail _ (.head _))
      obtain ⟨e2, e3⟩ := HB5.fz (.tail _ (.head _))
      have HB7 := Lib.hid (HB5.swap2 (.int .i64 (hiOf (areaS l (k + 1)))) (.int .u64 (loOf (areaS l (k + 1)))))
      clear HB5
      go_wp2
      go_roundg (l.length - (k + 1))
      case measure => have := HGK.out; omega
      case rel => exact ⟨k + 1, by omega, rfl, by go_num, HNP.out, HLM2.out, HB7.out.tail⟩
    ·obtain rfl : k = l.length := by omega
     have hall : ∀ x ∈ l, NormP x.par.ring := fun x hx => HNL.out x (by rw [List.take_length]; exact hx)
     have HALL := Lib.hid hall
     clear hall HNL HLM
     have hlim := edgs_lim HFP.out
     have HLIM := Lib.hid hlim
     have ha := arHL HNO.out.1
     have HAR := Lib.hid (fun K W (h : Hold w K W) => ref_area o Ao co (by unfold maxLen; omega) W (HRO.out _ _ h))
     rw [ha.1, ha.2.1, ha.2.2] at HAR
     clear ha
     have HALLE := Lib.hid (fun K W (h : Hold w K W) => ref_all l Ap cp (by omega) (by omega) W (HR.out _ _ h))
     have HEDG := Lib.hid (fun K W (h : Hold w K W) => ref_edges o Ao co (by omega) W (HRO.out _ _ h))
     clear hlim
     obtain ⟨c0, c1⟩ := HB.pt (.tail _ (.head _))
     go_wp2_with fail
     go_at_call 33
     refine (HAR.out _ _ HB).mono ?_
     rintro e w8 ⟨rfl, hB⟩
     have HB8 := (HB.on hB).new #[.int .i64 (hiOf (area o)), .int .u64 (loOf (area o))] 67
     clear hB c0 c1 HB HAR
     go_upto_region 12 with (fail)
     generalize (World.alloc w8 _) = W9 at HB8 ⊢
     generalize w8.heap.size = g7 at HB8 ⊢
     obtain ⟨e0, e1⟩ := HB8.pt (.tail _ (.head _))
     obtain ⟨e2, e3⟩ := HB8.pt (.head _)
     by_cases hs : areaS l l.length = area o
     ·have HS := Lib.hid hs
      rw [hs] at e0 e1
      clear hs
      have HB9 := Lib.hid HB8.tail.tail
      obtain ⟨c0, c1⟩ := HB8.pt (.tail _ (.tail _ (.head _)))
      clear HB8
      go_wp2_with fail
      go_at_call 35
      refine (HALLE.out _ _ HB9.out).mono ?_
      rintro e w10 ⟨v9, rfl, HV9⟩
      have HBX := HB9.out.on HV9.1
      obtain ⟨A9, c9, rfl, hi9, hn9⟩ := HV9.items
      have HI9 := Lib.hid (fun W (h : Below w10.heap.size w10 W) => hi9.on h)
      clear c0 c1 e0 e1 e2 e3 HALLE hi9 hn9 HV9
      obtain ⟨c0, c1⟩ := HBX.pt (.head _)
      go_wp2_with fail
      go_at_call 36
      refine (HEDG.out _ _ HBX).mono ?_
      rintro e w11 ⟨v10, rfl, HV10⟩
      obtain ⟨A10, c10, rfl, hi10, hn10⟩ := HV10.items
      have HED : Ed w A9 (edgs (rings l)) A10 (edg o) w11 := ⟨(HBX.on HV10.1).1, HI9.out _ HV10.1, hi10⟩
      clear c0 c1 HEDG hi10 hn10 HV10 HBX HI9 HB9 HR HRO
      generalize hes : edgs (rings l) = es at *
      have HES := Lib.hid hes
      clear hes
      go_wp2_with fail
      go_loopg [11] es.length (fun g i wr => ∃ k : Nat, k ≤ es.length ∧ g = es.length - k ∧ i = .int .i64 k ∧ (∀ i, i < k → EdgeP o es i) ∧ (∀ i j, i < k → i < j → j < es.length → PairP es i j) ∧ Ed w A9 es A10 (edg o) wr)
      case atStart => exact ⟨0, Nat.zero_le _, rfl, rfl, fun i hi => absurd hi (by omega), fun i j hi => absurd hi (by omega), HED⟩
      case round =>
       clear HED
       obtain ⟨k, hk, hgk, rfl, hep, hpp, HB⟩ := hrel
       have HGK := Lib.hid hgk
       have HEP := Lib.hid hep
       have HPP := Lib.hid hpp
       clear hgk hep hpp
       by_cases hlt : k < es.length
       ·have hgd := es_gd HALL.out
        have hin : es[k] ∈ edgs (rings l) := by rw [HES.out]; exact List.getElem_mem hlt
        have hge := hgd _ hin
        have HGE := Lib.hid hge
        have HLE : Hid (es.length ≤ 1024 ∧ (edg o).length ≤ 1024) := by have := HLIM.out; rw [edg_len]; exact ⟨by omega, by omega⟩
        obtain ⟨ad, hA, -, -⟩ := Items.get kindG.len HB.2.1 hlt
        subst hA
        have HX : Hid (es[k]? = some es[k]) := List.getElem?_eq_getElem hlt
        have HPL := Lib.hid (fun (x : (Int × Int) × (Int × Int)) W (h : Ed w (some ad) es A10 (edg o) W) => ref_place (edg o) A10 c10 x (by have := HLE.out.2; omega) W h.2.2)
        have HPE := Lib.hid (fun (x : (Int × Int) × (Int × Int)) W (h : Ed w (some ad) es A10 (edg o) W) => ref_place es (some ad) c9 x (by have := HLE.out.1; omega) W h.2.1)
        have HBADE : Hid (¬ EdgeP o es k → chkB o l = false) := fun h => chkB_not.2 fun hc => h (by have := hc.2.2.2.2.1; rw [HES.out] at this; exact this k hlt)
        have HBADP : Hid (∀ m, k < m → m < es.length → ¬ PairP es k m → chkB o l = false) := fun m h1 h2 h => chkB_not.2 fun hc => h (by have := hc.2.2.2.2.2.1; rw [HES.out] at this; exact this k m h1 h2)
        have HNE : Hid (EdgeP o es k → ∀ i, i < k + 1 → EdgeP o es i) := fun h i hi => by
         by_cases e : i = k
         ·subst e; exact h
         ·exact HEP.out i (by omega)
        have b0 : (0 : Int) ≤ (k : Int) := by omega
        have b1 : (k : Int) < (es.length : Int) := by omega
        have b2 : (es.length : Int) ≤ 1024 := by have := HLE.out.1; omega
        have z4 := wrap_in (n := (k : Int)) (by omega) (by omega)
        have z5 := wrap_in (n := (k : Int) + 1) (by omega) (by omega)
        clear hgd hin hge HEP
        generalize es[k] = e at *
        obtain ⟨d0, d1, d2, d3⟩ := edge_cells rfl HB.2.1 HX.out
        go_wp2_with fail
        go_at_call 37
        refine (HPL.out e _ HB).mono ?_
        rintro e' w12 ⟨n1, rfl, hp1, hB⟩
        replace HB := HB.on hB
        have HP1 := Lib.hid hp1.pos
        clear hB hp1 HPL d0 d1 d2 d3
        obtain ⟨d0, d1, d2, d3⟩ := edge_cells rfl HB.2.1 HX.out
        go_upto_region 20 with (fail)
        generalize hq : decide (0 ≤ n1) = bz
        have HQ := Lib.hid hq
        clear hq
        go_cut [107] (fun s107 wx => ∃ b, s107 = .bool b ∧ (b = true ↔ ¬ EdgeP o es k) ∧ Ed w (some ad) es A10 (edg o) wx)
        case first =>
         clear HBADE HBADP HNE HPP
         go_wp2_with fail
         go_at_call 37
         refine (HPE.out e _ HB).mono ?_
         rintro e' w13 ⟨n2, rfl, hp2, hB⟩
         replace HB := HB.on hB
         have HP2 := Lib.hid hp2
         clear hB hp2 d0 d1 d2 d3
         by_cases h2 : n2 = (k : Int)
         ·have HFST : Hid (∀ j : Nat, j < k → es[j]? ≠ some e) := by
           rcases HP2.out with ⟨h, -⟩ | ⟨i, h, -, h3⟩
           ·omega
           ·obtain rfl : i = k := by omega
            exact h3
          have e2 : (n2 != (k : Int)) = false := by simpa using h2
          clear h2 HP2
          obtain ⟨d0, d1, d2, d3⟩ := edge_cells rfl HB.2.1 HX.out
          go_wp2_with fail
          go_at_call 38
          refine (ref_back e _).mono ?_
          rintro e' w14 ⟨rfl, hB⟩
          replace HB := HB.on hB
          clear hB d0 d1 d2 d3
          go_wp2_with fail
          go_at_call 37
          refine (HPE.out (bk e) _ HB).mono ?_
          rintro e' w15 ⟨n3, rfl, hp3, hB⟩
          replace HB := HB.on hB
          have HP3 := Lib.hid hp3.pos
          clear hB hp3 HPE
          have HXE : Hid (EdgeP o es k ↔ (0 ≤ n1 ↔ ¬ 0 ≤ n3)) := by
           unfold Hid
           rw [HP1.out, HP3.out]
           exact ⟨fun h => (h e HX.out).2, fun h x hx => by
            obtain rfl := Option.some.inj (HX.out.symm.trans hx)
            exact ⟨HFST.out, h⟩⟩
          have HBK := Lib.hid HB
          clear HFST HP1 HP3 HB
          by_cases h1 : 0 ≤ n1 <;> by_cases h3 : 0 ≤ n3
          ·have HV : Hid (¬ EdgeP o es k) := by unfold Hid; rw [HXE.out]; simp [h1, h3]
           obtain rfl : bz = true := by rw [← HQ.out]; exact decide_eq_true h1
           have q3 := decide_eq_true h3
           clear HXE HQ h1 h3
           go_wp2_with fail
           go_meet
           exact ⟨_, rfl, ⟨fun _ => HV.out, fun _ => rfl⟩, HBK.out⟩
          ·have HV : Hid (EdgeP o es k) := by unfold Hid; rw [HXE.out]; simp [h1, h3]
           obtain rfl : bz = true := by rw [← HQ.out]; exact decide_eq_true h1
           have q3 := decide_eq_false h3
           clear HXE HQ h1 h3
           go_wp2_with fail
           go_meet
           exact ⟨_, rfl, ⟨fun h => Bool.noConfusion h, fun h => absurd HV.out h⟩, HBK.out⟩
          ·have HV : Hid (EdgeP o es k) := by unfold Hid; rw [HXE.out]; simp [h1, h3]
           obtain rfl : bz = false := by rw [← HQ.out]; exact decide_eq_false h1
           have q3 := decide_eq_true h3
           clear HXE HQ h1 h3
           go_wp2_with fail
           go_meet
           exact ⟨_, rfl, ⟨fun h => Bool.noConfusion h, fun h => absurd HV.out h⟩, HBK.out⟩
          ·have HV : Hid (¬ EdgeP o es k) := by unfold Hid; rw [HXE.out]; simp [h1, h3]
           obtain rfl : bz = false := by rw [← HQ.out]; exact decide_eq_false h1
           have q3 := decide_eq_false h3
           clear HXE HQ h1 h3
           go_wp2_with fail
           go_meet
           exact ⟨_, rfl, ⟨fun _ => HV.out, fun _ => rfl⟩, HBK.out⟩
         ·have HV : Hid (¬ EdgeP o es k) := fun h => h2 (by
           rcases HP2.out with ⟨-, hn⟩ | ⟨i, rfl, hi, h3⟩
           ·exact absurd (List.mem_of_getElem? HX.out) hn
           ·have hf := (h e HX.out).1
            rcases Nat.lt_trichotomy i k with hik | hik | hik
            ·exact absurd hi (hf i hik)
            ·rw [hik]
            ·exact absurd HX.out (h3 k hik))
          have e2 : (n2 != (k : Int)) = true := by simpa using h2
          have HBK := Lib.hid HB
          clear h2 HP2 HB HP1 HPE
          go_wp2_with fail
          go_meet
          exact ⟨_, rfl, ⟨fun _ => HV.out, fun _ => rfl⟩, HBK.out⟩
        case rest =>
         obtain ⟨bb, rfl, hbb, HB2⟩ := hcut
         clear HB HPE HP1 d0 d1 d2 d3
         have HB := HB2
         clear HB2
         cases bb
         ·have HEK : Hid (∀ i, i < k + 1 → EdgeP o es i) := HNE.out (by
           by_cases hh : EdgeP o es k
           ·exact hh
           ·have := hbb.2 hh; cases this)
          clear hbb HBADE HNE
          go_wp2_with fail
          go_loopg [13] (es.length - (k + 1)) (fun g jv wr => ∃ m : Nat, k < m ∧ m ≤ es.length ∧ g = es.length - m ∧ jv = .int .i64 m ∧ (∀ j, k < j → j < m → PairP es k j) ∧ Ed w (some ad) es A10 (edg o) wr)
          case atStart => exact ⟨k + 1, by omega, by omega, rfl, by go_num, fun j h h' => absurd h (by omega), HB⟩
          case round =>
           clear HB
           obtain ⟨m, hkm, hm, hgm, rfl, hpm, HB⟩ := hrel
           have HGM := Lib.hid hgm
           have HPM := Lib.hid hpm
           clear hgm hpm
           by_cases hltm : m < es.length
           ·have hinm : es[m] ∈ edgs (rings l) := by rw [HES.out]; exact List.getElem_mem hltm
            have hgf := es_gd HALL.out _ hinm
            have HY : Hid (es[m]? = some es[m]) := List.getElem?_eq_getElem hltm
            have HBADM : Hid (¬ Pair e es[m] → chkB o l = false) := fun h => HBADP.out m hkm hltm fun hp => h (hp _ _ HX.out HY.out)
            have HNXM : Hid (Pair e es[m] → ∀ j, k < j → j < m + 1 → PairP es k j) := fun h j h1 h2 => by
             by_cases ej : j = m
             ·subst ej
              intro a b ha hb
              obtain rfl := Option.some.inj (HX.out.symm.trans ha)
              obtain rfl := Option.some.inj (HY.out.symm.trans hb)
              exact h
             ·exact HPM.out j h1 (by omega)
            have HMT := Lib.hid (fun W => ref_meet e.1 e.2 es[m].1 es[m].2 HGE.out.1 HGE.out.2 hgf.1 hgf.2 W)
            have hme := meetN_eq e.1 e.2 es[m].1 es[m].2
            have c2 : (0 : Int) ≤ (m : Int) := by omega
            have c3 : (m : Int) < (es.length : Int) := by omega
            have z6 := wrap_in (n := (m : Int)) (by omega) (by omega)
            have z7 := wrap_in (n := (m : Int) + 1) (by omega) (by omega)
            clear hinm hgf HPM
            generalize es[m] = f at *
            have HME := Lib.hid hme
            clear hme
            have H0 : Hold w [] wr := ⟨HB.1, fun _ h => (by cases h), List.Pairwise.nil⟩
            have HAB := (H0.new #[.int .i64 e.1.1, .int .i64 e.1.2, .int .i64 e.2.1, .int .i64 e.2.2] 76).new' #[.int .i64 f.1.1, .int .i64 f.1.2, .int .i64 f.2.1, .int .i64 f.2.2] 76 (n := wr.heap.size + 1) (by simp only [World.size_alloc])
            have HBm := HB.alloc (Obj.cells #[.int .i64 e.1.1, .int .i64 e.1.2, .int .i64 e.2.1, .int .i64 e.2.2] 76 (0, 0))
            obtain ⟨d0, d1, d2, d3⟩ := edge_cells rfl HB.2.1 HX.out
            obtain ⟨g0', g1', g2', g3'⟩ := edge_cells rfl HBm.2.1 HY.out
            replace HB := HBm.alloc (Obj.cells #[.int .i64 f.1.1, .int .i64 f.1.2, .int .i64 f.2.1, .int .i64 f.2.2] 76 (0, 0))
            go_upto_region 27 with (fail)
            clear d0 d1 d2 d3 g0' g1' g2' g3' HBm H0
            generalize (World.alloc (World.alloc wr _) _) = W14 at HAB HB ⊢
            generalize wr.heap.size + 1 = g15 at HAB ⊢
            generalize wr.heap.size = g14 at HAB ⊢
            obtain ⟨a0, a1, a2, a3⟩ := HAB.q4 (List.mem_cons_of_mem _ List.mem_cons_self)
            obtain ⟨f0, f1, f2, f3⟩ := HAB.q4 List.mem_cons_self
            go_wp2_with fail
            go_at_call 39
            refine (HMT.out _).mono ?_
            rintro e' w16 ⟨rfl, hB⟩
            replace HAB := HAB.on hB
            replace HB := HB.on hB
            clear hB HMT a0 a1 a2 a3 f0 f1 f2 f3
            generalize meetN e.1 e.2 f.1 f.2 = M at *
            obtain ⟨a0, a1, a2, a3⟩ := HAB.q4 (List.mem_cons_of_mem _ List.mem_cons_self)
            obtain ⟨f0, f1, f2, f3⟩ := HAB.q4 List.mem_cons_self
            go_upto_region 28 with (fail)
            go_cut [17] (fun s17 wx => s17 = .bool (endB e f) ∧ Hold w [(g15, #[.int .i64 f.1.1, .int .i64 f.1.2, .int .i64 f.2.1, .int .i64 f.2.2], 76), (g14, #[.int .i64 e.1.1, .int .i64 e.1.2, .int .i64 e.2.1, .int .i64 e.2.2], 76)] wx ∧ Ed w (some ad) es A10 (edg o) wx)
            case first =>
             clear HBADM HNXM HBADP HPP HEK HX HY HME
             rcases (show (e.1.1 = f.1.1 ∧ e.1.2 = f.1.2) ∨ ¬ e.1.1 = f.1.1 ∨ (e.1.1 = f.1.1 ∧ ¬ e.1.2 = f.1.2) by omega) with ⟨x0, y0⟩ | x0 | ⟨x0, y0⟩
             ·have HX2 : Hid (endB e f = true) := endB_iff.2 (Or.inl (Prod.ext x0 y0))
              have a0' : (e.1.1 == f.1.1) = true := by simpa using x0
              have b0' : (e.1.2 == f.1.2) = true := by simpa using y0
              clear  x0 y0
              go_wp2_with fail
              go_meet
              exact ⟨by rw [HX2.out], HAB, HB⟩
             ·have a0' : (e.1.1 == f.1.1) = false := by simpa using x0
              rcases (show (e.1.1 = f.2.1 ∧ e.1.2 = f.2.2) ∨ ¬ e.1.1 = f.2.1 ∨ (e.1.1 = f.2.1 ∧ ¬ e.1.2 = f.2.2) by omega) with ⟨x1, y1⟩ | x1 | ⟨x1, y1⟩
              ·have HX2 : Hid (endB e f = true) := endB_iff.2 (Or.inr (Or.inl (Prod.ext x1 y1)))
               have a1' : (e.1.1 == f.2.1) = true := by simpa using x1
               have b1' : (e.1.2 == f.2.2) = true := by simpa using y1
               clear x0 x1 y1
               go_wp2_with fail
               go_meet
               exact ⟨by rw [HX2.out], HAB, HB⟩
              ·have a1' : (e.1.1 == f.2.1) = false := by simpa using x1
               rcases (show (e.2.1 = f.1.1 ∧ e.2.2 = f.1.2) ∨ ¬ e.2.1 = f.1.1 ∨ (e.2.1 = f.1.1 ∧ ¬ e.2.2 = f.1.2) by omega) with ⟨x2, y2⟩ | x2 | ⟨x2, y2⟩
               ·have HX2 : Hid (endB e f = true) := endB_iff.2 (Or.inr (Or.inr (Or.inl (Prod.ext x2 y2))))
                have a2' : (e.2.1 == f.1.1) = true := by simpa using x2
                have b2' : (e.2.2 == f.1.2) = true := by simpa using y2
                clear x0 x1 x2 y2
                go_wp2_with fail
                go_meet
                exact ⟨by rw [HX2.out], HAB, HB⟩
               ·have a2' : (e.2.1 == f.1.1) = false := by simpa using x2
                rcases (show (e.2.1 = f.2.1 ∧ e.2.2 = f.2.2) ∨ ¬ e.2.1 = f.2.1 ∨ (e.2.1 = f.2.1 ∧ ¬ e.2.2 = f.2.2) by omega) with ⟨x3, y3⟩ | x3 | ⟨x3, y3⟩
                ·have HX2 : Hid (endB e f = true) := endB_iff.2 (Or.inr (Or.inr (Or.inr (Prod.ext x3 y3))))
                 have a3' : (e.2.1 == f.2.1) = true := by simpa using x3
                 have b3' : (e.2.2 == f.2.2) = true := by simpa using y3
                 clear x0 x1 x2 x3 y3
                 go_wp2_with fail
                 go_meet
                 exact ⟨by rw [HX2.out], HAB, HB⟩
                ·have a3' : (e.2.1 == f.2.1) = false := by simpa using x3
                 have HX2 : Hid (endB e f = false) := by
                  unfold Hid; rw [Bool.eq_false_iff, ne_eq, endB_iff]; rintro (h | h | h | h)
                  ·exact x0 (by rw [h])
                  ·exact x1 (by rw [h])
                  ·exact x2 (by rw [h])
                  ·exact x3 (by rw [h])
                 clear x0 x1 x2 x3
                 go_wp2_with fail
                 go_meet
                 exact ⟨by rw [HX2.out], HAB, HB⟩
                ·have a3' : (e.2.1 == f.2.1) = true := by simpa using x3
                 have b3' : (e.2.2 == f.2.2) = false := by simpa using y3
                 have HX2 : Hid (endB e f = false) := by
                  unfold Hid; rw [Bool.eq_false_iff, ne_eq, endB_iff]; rintro (h | h | h | h)
                  ·exact x0 (by rw [h])
                  ·exact x1 (by rw [h])
                  ·exact x2 (by rw [h])
                  ·exact y3 (by rw [h])
                 clear x0 x1 x2 x3 y3
                 go_wp2_with fail
                 go_meet
                 exact ⟨by rw [HX2.out], HAB, HB⟩
               ·have a2' : (e.2.1 == f.1.1) = true := by simpa using x2
                have b2' : (e.2.2 == f.1.2) = false := by simpa using y2
                rcases (show (e.2.1 = f.2.1 ∧ e.2.2 = f.2.2) ∨ ¬ e.2.1 = f.2.1 ∨ (e.2.1 = f.2.1 ∧ ¬ e.2.2 = f.2.2) by omega) with ⟨x3, y3⟩ | x3 | ⟨x3, y3⟩
                ·have HX2 : Hid (endB e f = true) := endB_iff.2 (Or.inr (Or.inr (Or.inr (Prod.ext x3 y3))))
                 have a3' : (e.2.1 == f.2.1) = true := by simpa using x3
                 have b3' : (e.2.2 == f.2.2) = true := by simpa using y3
                 clear x0 x1 x2 y2 x3 y3
                 go_wp2_with fail
                 go_meet
                 exact ⟨by rw [HX2.out], HAB, HB⟩
                ·have a3' : (e.2.1 == f.2.1) = false := by simpa using x3
                 have HX2 : Hid (endB e f = false) := by
                  unfold Hid; rw [Bool.eq_false_iff, ne_eq, endB_iff]; rintro (h | h | h | h)
                  ·exact x0 (by rw [h])
                  ·exact x1 (by rw [h])
                  ·exact y2 (by rw [h])
                  ·exact x3 (by rw [h])
                 clear x0 x1 x2 y2 x3
                 go_wp2_with fail
                 go_meet
                 exact ⟨by rw [HX2.out], HAB, HB⟩
                ·have a3' : (e.2.1 == f.2.1) = true := by simpa using x3
                 have b3' : (e.2.2 == f.2.2) = false := by simpa using y3
                 have HX2 : Hid (endB e f = false) := by
                  unfold Hid; rw [Bool.eq_false_iff, ne_eq, endB_iff]; rintro (h | h | h | h)
                  ·exact x0 (by rw [h])
                  ·exact x1 (by rw [h])
                  ·exact y2 (by rw [h])
                  ·exact y3 (by rw [h])
                 clear x0 x1 x2 y2 x3 y3
                 go_wp2_with fail
                 go_meet
                 exact ⟨by rw [HX2.out], HAB, HB⟩
              ·have a1' : (e.1.1 == f.2.1) = true := by simpa using x1
               have b1' : (e.1.2 == f.2.2) = false := by simpa using y1
               rcases (show (e.2.1 = f.1.1 ∧ e.2.2 = f.1.2) ∨ ¬ e.2.1 = f.1.1 ∨ (e.2.1 = f.1.1 ∧ ¬ e.2.2 = f.1.2) by omega) with ⟨x2, y2⟩ | x2 | ⟨x2, y2⟩
               ·have HX2 : Hid (endB e f = true) := endB_iff.2 (Or.inr (Or.inr (Or.inl (Prod.ext x2 y2))))
                have a2' : (e.2.1 == f.1.1) = true := by simpa using x2
                have b2' : (e.2.2 == f.1.2) = true := by simpa using y2
                clear x0 x1 y1 x2 y2
                go_wp2_with fail
                go_meet
                exact ⟨by rw [HX2.out], HAB, HB⟩
               ·have a2' : (e.2.1 == f.1.1) = false := by simpa using x2
                rcases (show (e.2.1 = f.2.1 ∧ e.2.2 = f.2.2) ∨ ¬ e.2.1 = f.2.1 ∨ (e.2.1 = f.2.1 ∧ ¬ e.2.2 = f.2.2) by omega) with ⟨x3, y3⟩ | x3 | ⟨x3, y3⟩
                ·have HX2 : Hid (endB e f = true) := endB_iff.2 (Or.inr (Or.inr (Or.inr (Prod.ext x3 y3))))
                 have a3' : (e.2.1 == f.2.1) = true := by simpa using x3
                 have b3' : (e.2.2 == f.2.2) = true := by simpa using y3
                 clear x0 x1 y1 x2 x3 y3
                 go_wp2_with fail
                 go_meet
                 exact ⟨by rw [HX2.out], HAB, HB⟩
                ·have a3' : (e.2.1 == f.2.1) = false := by simpa using x3
                 have HX2 : Hid (endB e f = false) := by
                  unfold Hid; rw [Bool.eq_false_iff, ne_eq, endB_iff]; rintro (h | h | h | h)
                  ·exact x0 (by rw [h])
                  ·exact y1 (by rw [h])
                  ·exact x2 (by rw [h])
                  ·exact x3 (by rw [h])
                 clear x0 x1 y1 x2 x3
                 go_wp2_with fail
                 go_meet
                 exact ⟨by rw [HX2.out], HAB, HB⟩
                ·have a3' : (e.2.1 == f.2.1) = true := by simpa using x3
                 have b3' : (e.2.2 == f.2.2) = false := by simpa using y3
                 have HX2 : Hid (endB e f = false) := by
                  unfold Hid; rw [Bool.eq_false_iff, ne_eq, endB_iff]; rintro (h | h | h | h)
                  ·exact x0 (by rw [h])
                  ·exact y1 (by rw [h])
                  ·exact x2 (by rw [h])
                  ·exact y3 (by rw [h])
                 clear x0 x1 y1 x2 x3 y3
                 go_wp2_with fail
                 go_meet
                 exact ⟨by rw [HX2.out], HAB, HB⟩
               ·have a2' : (e.2.1 == f.1.1) = true := by simpa using x2
                have b2' : (e.2.2 == f.1.2) = false := by simpa using y2
                rcases (show (e.2.1 = f.2.1 ∧ e.2.2 = f.2.2) ∨ ¬ e.2.1 = f.2.1 ∨ (e.2.1 = f.2.1 ∧ ¬ e.2.2 = f.2.2) by omega) with ⟨x3, y3⟩ | x3 | ⟨x3, y3⟩
                ·exfalso; omega
                ·have a3' : (e.2.1 == f.2.1) = false := by simpa using x3
                 have HX2 : Hid (endB e f = false) := by
                  unfold Hid; rw [Bool.eq_false_iff, ne_eq, endB_iff]; rintro (h | h | h | h)
                  ·exact x0 (by rw [h])
                  ·exact y1 (by rw [h])
                  ·exact y2 (by rw [h])
                  ·exact x3 (by rw [h])
                 clear x0 x1 y1 x2 y2 x3
                 go_wp2_with fail
                 go_meet
                 exact ⟨by rw [HX2.out], HAB, HB⟩
                ·exfalso; omega
             ·have a0' : (e.1.1 == f.1.1) = true := by simpa using x0
              have b0' : (e.1.2 == f.1.2) = false := by simpa using y0
              rcases (show (e.1.1 = f.2.1 ∧ e.1.2 = f.2.2) ∨ ¬ e.1.1 = f.2.1 ∨ (e.1.1 = f.2.1 ∧ ¬ e.1.2 = f.2.2) by omega) with ⟨x1, y1⟩ | x1 | ⟨x1, y1⟩
              ·have HX2 : Hid (endB e f = true) := endB_iff.2 (Or.inr (Or.inl (Prod.ext x1 y1)))
               have a1' : (e.1.1 == f.2.1) = true := by simpa using x1
               have b1' : (e.1.2 == f.2.2) = true := by simpa using y1
               clear x0 y0 x1 y1
               go_wp2_with fail
               go_meet
               exact ⟨by rw [HX2.out], HAB, HB⟩
              ·have a1' : (e.1.1 == f.2.1) = false := by simpa using x1
               rcases (show (e.2.1 = f.1.1 ∧ e.2.2 = f.1.2) ∨ ¬ e.2.1 = f.1.1 ∨ (e.2.1 = f.1.1 ∧ ¬ e.2.2 = f.1.2) by omega) with ⟨x2, y2⟩ | x2 | ⟨x2, y2⟩
               ·have HX2 : Hid (endB e f = true) := endB_iff.2 (Or.inr (Or.inr (Or.inl (Prod.ext x2 y2))))
                have a2' : (e.2.1 == f.1.1) = true := by simpa using x2
                have b2' : (e.2.2 == f.1.2) = true := by simpa using y2
                clear x0 y0 x1 x2 y2
                go_wp2_with fail
                go_meet
                exact ⟨by rw [HX2.out], HAB, HB⟩
               ·have a2' : (e.2.1 == f.1.1) = false := by simpa using x2
                rcases (show (e.2.1 = f.2.1 ∧ e.2.2 = f.2.2) ∨ ¬ e.2.1 = f.2.1 ∨ (e.2.1 = f.2.1 ∧ ¬ e.2.2 = f.2.2) by omega) with ⟨x3, y3⟩ | x3 | ⟨x3, y3⟩
                ·have HX2 : Hid (endB e f = true) := endB_iff.2 (Or.inr (Or.inr (Or.inr (Prod.ext x3 y3))))
                 have a3' : (e.2.1 == f.2.1) = true := by simpa using x3
                 have b3' : (e.2.2 == f.2.2) = true := by simpa using y3
                 clear x0 y0 x1 x2 x3 y3
                 go_wp2_with fail
                 go_meet
                 exact ⟨by rw [HX2.out], HAB, HB⟩
                ·have a3' : (e.2.1 == f.2.1) = false := by simpa using x3
                 have HX2 : Hid (endB e f = false) := by
                  unfold Hid; rw [Bool.eq_false_iff, ne_eq, endB_iff]; rintro (h | h | h | h)
                  ·exact y0 (by rw [h])
                  ·exact x1 (by rw [h])
                  ·exact x2 (by rw [h])
                  ·exact x3 (by rw [h])
                 clear x0 y0 x1 x2 x3
                 go_wp2_with fail
                 go_meet
                 exact ⟨by rw [HX2.out], HAB, HB⟩
                ·have a3' : (e.2.1 == f.2.1) = true := by simpa using x3
                 have b3' : (e.2.2 == f.2.2) = false := by simpa using y3
                 have HX2 : Hid (endB e f = false) := by
                  unfold Hid; rw [Bool.eq_false_iff, ne_eq, endB_iff]; rintro (h | h | h | h)
                  ·exact y0 (by rw [h])
                  ·exact x1 (by rw [h])
                  ·exact x2 (by rw [h])
                  ·exact y3 (by rw [h])
                 clear x0 y0 x1 x2 x3 y3
                 go_wp2_with fail
                 go_meet
                 exact ⟨by rw [HX2.out], HAB, HB⟩
               ·have a2' : (e.2.1 == f.1.1) = true := by simpa using x2
                have b2' : (e.2.2 == f.1.2) = false := by simpa using y2
                rcases (show (e.2.1 = f.2.1 ∧ e.2.2 = f.2.2) ∨ ¬ e.2.1 = f.2.1 ∨ (e.2.1 = f.2.1 ∧ ¬ e.2.2 = f.2.2) by omega) with ⟨x3, y3⟩ | x3 | ⟨x3, y3⟩
                ·exfalso; omega
                ·have a3' : (e.2.1 == f.2.1) = false := by simpa using x3
                 have HX2 : Hid (endB e f = false) := by
                  unfold Hid; rw [Bool.eq_false_iff, ne_eq, endB_iff]; rintro (h | h | h | h)
                  ·exact y0 (by rw [h])
                  ·exact x1 (by rw [h])
                  ·exact y2 (by rw [h])
                  ·exact x3 (by rw [h])
                 clear x0 y0 x1 x2 y2 x3
                 go_wp2_with fail
                 go_meet
                 exact ⟨by rw [HX2.out], HAB, HB⟩
                ·exfalso; omega
              ·have a1' : (e.1.1 == f.2.1) = true := by simpa using x1
               have b1' : (e.1.2 == f.2.2) = false := by simpa using y1
               rcases (show (e.2.1 = f.1.1 ∧ e.2.2 = f.1.2) ∨ ¬ e.2.1 = f.1.1 ∨ (e.2.1 = f.1.1 ∧ ¬ e.2.2 = f.1.2) by omega) with ⟨x2, y2⟩ | x2 | ⟨x2, y2⟩
               ·have HX2 : Hid (endB e f = true) := endB_iff.2 (Or.inr (Or.inr (Or.inl (Prod.ext x2 y2))))
                have a2' : (e.2.1 == f.1.1) = true := by simpa using x2
                have b2' : (e.2.2 == f.1.2) = true := by simpa using y2
                clear x0 y0 x1 y1 x2 y2
                go_wp2_with fail
                go_meet
                exact ⟨by rw [HX2.out], HAB, HB⟩
               ·have a2' : (e.2.1 == f.1.1) = false := by simpa using x2
                rcases (show (e.2.1 = f.2.1 ∧ e.2.2 = f.2.2) ∨ ¬ e.2.1 = f.2.1 ∨ (e.2.1 = f.2.1 ∧ ¬ e.2.2 = f.2.2) by omega) with ⟨x3, y3⟩ | x3 | ⟨x3, y3⟩
                ·exfalso; omega
                ·have a3' : (e.2.1 == f.2.1) = false := by simpa using x3
                 have HX2 : Hid (endB e f = false) := by
                  unfold Hid; rw [Bool.eq_false_iff, ne_eq, endB_iff]; rintro (h | h | h | h)
                  ·exact y0 (by rw [h])
                  ·exact y1 (by rw [h])
                  ·exact x2 (by rw [h])
                  ·exact x3 (by rw [h])
                 clear x0 y0 x1 y1 x2 x3
                 go_wp2_with fail
                 go_meet
                 exact ⟨by rw [HX2.out], HAB, HB⟩
                ·exfalso; omega
               ·have a2' : (e.2.1 == f.1.1) = true := by simpa using x2
                have b2' : (e.2.2 == f.1.2) = false := by simpa using y2
                rcases (show (e.2.1 = f.2.1 ∧ e.2.2 = f.2.2) ∨ ¬ e.2.1 = f.2.1 ∨ (e.2.1 = f.2.1 ∧ ¬ e.2.2 = f.2.2) by omega) with ⟨x3, y3⟩ | x3 | ⟨x3, y3⟩
                ·have HX2 : Hid (endB e f = true) := endB_iff.2 (Or.inr (Or.inr (Or.inr (Prod.ext x3 y3))))
                 have a3' : (e.2.1 == f.2.1) = true := by simpa using x3
                 have b3' : (e.2.2 == f.2.2) = true := by simpa using y3
                 clear x0 y0 x1 y1 x2 y2 x3 y3
                 go_wp2_with fail
                 go_meet
                 exact ⟨by rw [HX2.out], HAB, HB⟩
                ·exfalso; omega
                ·have a3' : (e.2.1 == f.2.1) = true := by simpa using x3
                 have b3' : (e.2.2 == f.2.2) = false := by simpa using y3
                 have HX2 : Hid (endB e f = false) := by
                  unfold Hid; rw [Bool.eq_false_iff, ne_eq, endB_iff]; rintro (h | h | h | h)
                  ·exact y0 (by rw [h])
                  ·exact y1 (by rw [h])
                  ·exact y2 (by rw [h])
                  ·exact y3 (by rw [h])
                 clear x0 y0 x1 y1 x2 y2 x3 y3
                 go_wp2_with fail
                 go_meet
                 exact ⟨by rw [HX2.out], HAB, HB⟩
            case rest =>
             obtain ⟨rfl, HAB2, HB2⟩ := hcut
             clear HAB HB a0 a1 a2 a3 f0 f1 f2 f3
             have hmb := meet_bound (a := e.1) (b := e.2) (c := f.1) (d := f.2)
             rw [← HME.out] at hmb
             obtain ⟨a0, a1, a2, a3⟩ := HAB2.q4 (List.mem_cons_of_mem _ List.mem_cons_self)
             obtain ⟨f0, f1, f2, f3⟩ := HAB2.q4 List.mem_cons_self
             rcases (show M = 0 ∨ M = 1 ∨ M = 2 ∨ M = 3 by omega) with rfl | rfl | rfl | rfl
             ·have HN := Lib.hid (HNXM.out ⟨by rw [← HME.out]; omega, fun h => by rw [← HME.out] at h; omega, fun h => by rw [← HME.out] at h; omega⟩)
              clear HBADM HNXM hmb
              go_upto_region 29 with (fail)
              go_quiet (fail)
              have HK := Lib.hid (HB2.drewN nq)
              clear HB2 HAB2
              go_wp2
              go_roundg (es.length - (m + 1))
              case measure => have := HGM.out; omega
              case rel => exact ⟨m + 1, by omega, by omega, rfl, by go_num, HN.out, HK.out⟩
             ·cases hen : endB e f
              ·have HE := Lib.hid (HBADM.out fun h => by
                have := endB_iff.2 (h.2.1 HME.out.symm)
                rw [hen] at this; cases this)
               have HK := Lib.hid (HB2.drewN 1).1
               clear HBADM HNXM HBADP HPP HEK hmb hen
               go_upto_region 29 with (fail)
               go_quiet (fail)
               have HK := Lib.hid (HB2.drewN nq).1
               clear HB2 HAB2
               go_wp2
               go_ret
               rw [HE.out]
               exact ⟨rfl, HK.out⟩
              ·have HN := Lib.hid (HNXM.out ⟨by rw [← HME.out]; omega, fun _ => endB_iff.1 hen, fun h => by rw [← HME.out] at h; omega⟩)
               clear HBADM HNXM hmb hen
               go_upto_region 29 with (fail)
               go_quiet (fail)
               have HK := Lib.hid (HB2.drewN nq)
               clear HB2 HAB2
               go_wp2
               go_roundg (es.length - (m + 1))
               case measure => have := HGM.out; omega
               case rel => exact ⟨m + 1, by omega, by omega, rfl, by go_num, HN.out, HK.out⟩
             ·have HE := Lib.hid (HBADM.out fun h => h.1 HME.out.symm)
              clear HBADM HNXM HBADP HPP HEK hmb
              go_upto_region 29 with (fail)
              go_quiet (fail)
              have HK := Lib.hid (HB2.drewN nq).1
              clear HB2 HAB2
              go_wp2
              go_ret
              rw [HE.out]
              exact ⟨rfl, HK.out⟩
             ·clear hmb a0 a1 a2 a3 f0 f1 f2 f3
              have HRD := Lib.hid (fun W (h : Hold w [(g15, #[.int .i64 f.1.1, .int .i64 f.1.2, .int .i64 f.2.1, .int .i64 f.2.2], 76), (g14, #[.int .i64 e.1.1, .int .i64 e.1.2, .int .i64 e.2.1, .int .i64 e.2.2], 76)] W) => show W.cell? ⟨g14, 0, none⟩ = some (.int .i64 e.1.1) ∧ W.cell? ⟨g14, 1, none⟩ = some (.int .i64 e.1.2) ∧ W.cell? ⟨g14, 2, none⟩ = some (.int .i64 e.2.1) ∧ W.cell? ⟨g14, 3, none⟩ = some (.int .i64 e.2.2) ∧ W.cell? ⟨g15, 0, none⟩ = some (.int .i64 f.1.1) ∧ W.cell? ⟨g15, 1, none⟩ = some (.int .i64 f.1.2) ∧ W.cell? ⟨g15, 2, none⟩ = some (.int .i64 f.2.1) ∧ W.cell? ⟨g15, 3, none⟩ = some (.int .i64 f.2.2) from ⟨(h.q4 (List.mem_cons_of_mem _ List.mem_cons_self)).1, (h.q4 (List.mem_cons_of_mem _ List.mem_cons_self)).2.1, (h.q4 (List.mem_cons_of_mem _ List.mem_cons_self)).2.2.1, (h.q4 (List.mem_cons_of_mem _ List.mem_cons_self)).2.2.2, (h.q4 List.mem_cons_self).1, (h.q4 List.mem_cons_self).2.1, (h.q4 List.mem_cons_self).2.2.1, (h.q4 List.mem_cons_self).2.2.2⟩)
              have hw : (e.1.1 = f.2.1 ∧ e.1.2 = f.2.2 ∧ e.2.1 = f.1.1 ∧ e.2.2 = f.1.2) ∨ ¬ e.1.1 = f.2.1 ∨ (e.1.1 = f.2.1 ∧ ¬ e.1.2 = f.2.2) ∨ (e.1.1 = f.2.1 ∧ e.1.2 = f.2.2 ∧ ¬ e.2.1 = f.1.1) ∨ (e.1.1 = f.2.1 ∧ e.1.2 = f.2.2 ∧ e.2.1 = f.1.1 ∧ ¬ e.2.2 = f.1.2) := by omega
              rcases hw with ⟨h1, h2, h3, h4⟩ | h1 | ⟨h1, h2⟩ | ⟨h1, h2, h3⟩ | ⟨h1, h2, h3, h4⟩
              ·have HN := Lib.hid (HNXM.out ⟨by rw [← HME.out]; omega, fun h => by rw [← HME.out] at h; omega, fun _ => Prod.ext (Prod.ext h1 h2) (Prod.ext h3 h4)⟩)
               have q1 : (e.1.1 == f.2.1) = true := by simpa using h1
               have q2 : (e.1.2 == f.2.2) = true := by simpa using h2
               have q3 : (e.2.1 == f.1.1) = true := by simpa using h3
               have q4 : (e.2.2 == f.1.2) = true := by simpa using h4
               have P1 : Hid (e.1.1 = (bk f).1.1) := h1
               have P2 : Hid (e.1.2 = (bk f).1.2) := h2
               have P3 : Hid (e.2.1 = (bk f).2.1) := h3
               have P4 : Hid (e.2.2 = (bk f).2.2) := h4
               clear h1 h2 h3 h4 HBADM HNXM HBADP HX HY HME
               go_upto_region 29 with (fail)
               refine wp_region_held_drew (S := (fun W => W.cell? ⟨g14, 0, none⟩ = some (.int .i64 e.1.1) ∧ W.cell? ⟨g14, 1, none⟩ = some (.int .i64 e.1.2) ∧ W.cell? ⟨g14, 2, none⟩ = some (.int .i64 e.2.1) ∧ W.cell? ⟨g14, 3, none⟩ = some (.int .i64 e.2.2) ∧ W.cell? ⟨g15, 0, none⟩ = some (.int .i64 f.1.1) ∧ W.cell? ⟨g15, 1, none⟩ = some (.int .i64 f.1.2) ∧ W.cell? ⟨g15, 2, none⟩ = some (.int .i64 f.2.1) ∧ W.cell? ⟨g15, 3, none⟩ = some (.int .i64 f.2.2))) (by kernel_rfl) ?_ (fun hHeld => ?_)
               ·(try dsimp only)
                (first | exact HRD.out _ (by assumption) | exact HRD.out _ (Hold.drew (by assumption)))
               refine tZ 0 ?_; refine tZ 1 ?_; refine tZ 2 ?_; refine tZ 3 ?_; refine tZ 4 ?_; refine tZ 5 ?_; refine pZ 6 ?_; refine pZ 7 ?_; refine tZ 8 ?_; refine tZ 9 ?_; refine tZ 10 ?_; refine tZ 11 ?_; refine tZ 12 ?_; refine tZ 13 ?_; refine tZ 14 ?_; refine tZ 15 ?_
               refine wpAnyH_ready (rs := [16]) (by decide +kernel) (by simp) ?_
               refine AllReadyH.cons rfl (fun K hK => ?_) AllReadyH.nil
               (try simp only [jA, jB, jC])
               go_simp
               ((go_at_call 38; (with_reducible refine (ref_back f _).mono ?_); rintro e' w' ⟨rfl, hB⟩; have HS' := Hold.on (by first | assumption | exact Hold.drew (by assumption)) hB; have HT' := Lib.hid (Ed.on (by first | assumption | exact Ed.drew (by assumption)) hB)))
               refine hK.out _ _ ?_ (fun hHeld => ?_)
               focus ((try dsimp only); (first | exact HRD.out _ (by assumption) | exact HRD.out _ (Hold.drew (by assumption))); done)
               clear hK K
               (try simp only [Act.put, jA, jB, jC, jD, jE, jF])
               refine takeSome (i := 17) (v := ?_) (by decide +kernel) rfl (by rfl) (by decide +kernel) (by decide +kernel) (fun _ _ _ h => h) (by assumption) ?_ ?_
               rotate_left
               focus (intro w0 hSw; (try dsimp only at hSw); go_simp; rw [if_pos P1.out, if_pos P2.out, if_pos P3.out, if_pos P4.out]; (try (with_reducible rfl)); done)
               (try simp only [Act.put, jA, jB, jC, jD, jE, jF])
               refine tZ 18 ?_; refine tZ 19 ?_
               refine wpAnyH_done (by decide +kernel) ?_ _
               have HK := HT'
               go_wp2
               go_roundg (es.length - (m + 1))
               case measure => have := HGM.out; omega
               case rel => exact ⟨m + 1, by omega, by omega, rfl, by go_num, HN.out, HK.out⟩
              ·have HE := Lib.hid (HBADM.out fun h => h1 (by rw [h.2.2 HME.out.symm]; rfl))
               have q1 : (e.1.1 == f.2.1) = false := by simpa using h1
               have P1 : Hid (¬ e.1.1 = (bk f).1.1) := h1
               clear h1 HBADM HNXM HBADP HPP HEK HX HY HME
               go_upto_region 29 with (fail)
               refine wp_region_held_drew (S := (fun W => W.cell? ⟨g14, 0, none⟩ = some (.int .i64 e.1.1) ∧ W.cell? ⟨g14, 1, none⟩ = some (.int .i64 e.1.2) ∧ W.cell? ⟨g14, 2, none⟩ = some (.int .i64 e.2.1) ∧ W.cell? ⟨g14, 3, none⟩ = some (.int .i64 e.2.2) ∧ W.cell? ⟨g15, 0, none⟩ = some (.int .i64 f.1.1) ∧ W.cell? ⟨g15, 1, none⟩ = some (.int .i64 f.1.2) ∧ W.cell? ⟨g15, 2, none⟩ = some (.int .i64 f.2.1) ∧ W.cell? ⟨g15, 3, none⟩ = some (.int .i64 f.2.2))) (by kernel_rfl) ?_ (fun hHeld => ?_)
               ·(try dsimp only)
                (first | exact HRD.out _ (by assumption) | exact HRD.out _ (Hold.drew (by assumption)))
               refine tZ 0 ?_; refine tZ 1 ?_; refine tZ 2 ?_; refine tZ 3 ?_; refine tZ 4 ?_; refine tZ 5 ?_; refine pZ 6 ?_; refine pZ 7 ?_; refine tZ 8 ?_; refine tZ 9 ?_; refine tZ 10 ?_; refine tZ 11 ?_; refine tZ 12 ?_; refine tZ 13 ?_; refine tZ 14 ?_; refine tZ 15 ?_
               refine wpAnyH_ready (rs := [16]) (by decide +kernel) (by simp) ?_
               refine AllReadyH.cons rfl (fun K hK => ?_) AllReadyH.nil
               (try simp only [jA, jB, jC])
               go_simp
               ((go_at_call 38; (with_reducible refine (ref_back f _).mono ?_); rintro e' w' ⟨rfl, hB⟩; have HS' := Hold.on (by first | assumption | exact Hold.drew (by assumption)) hB; have HT' := Lib.hid (Ed.on (by first | assumption | exact Ed.drew (by assumption)) hB)))
               refine hK.out _ _ ?_ (fun hHeld => ?_)
               focus ((try dsimp only); (first | exact HRD.out _ (by assumption) | exact HRD.out _ (Hold.drew (by assumption))); done)
               clear hK K
               (try simp only [Act.put, jA, jB, jC, jD, jE, jF])
               refine takeSome (i := 17) (v := ?_) (by decide +kernel) rfl (by rfl) (by decide +kernel) (by decide +kernel) (fun _ _ _ h => h) (by assumption) ?_ ?_
               rotate_left
               focus (intro w0 hSw; (try dsimp only at hSw); go_simp; rw [if_neg P1.out]; (try (with_reducible rfl)); done)
               (try simp only [Act.put, jA, jB, jC, jD, jE, jF])
               refine tZ 18 ?_; refine tZ 19 ?_
               refine wpAnyH_done (by decide +kernel) ?_ _
               have HK := Lib.hid HT'.out.1
               go_wp2
               go_ret
               rw [HE.out]
               exact ⟨rfl, HK.out⟩
              ·have HE := Lib.hid (HBADM.out fun h => h2 (by rw [h.2.2 HME.out.symm]; rfl))
               have q1 : (e.1.1 == f.2.1) = true := by simpa using h1
               have q2 : (e.1.2 == f.2.2) = false := by simpa using h2
               have P1 : Hid (e.1.1 = (bk f).1.1) := h1
               have P2 : Hid (¬ e.1.2 = (bk f).1.2) := h2
               clear h1 h2 HBADM HNXM HBADP HPP HEK HX HY HME
               go_upto_region 29 with (fail)
               refine wp_region_held_drew (S := (fun W => W.cell? ⟨g14, 0, none⟩ = some (.int .i64 e.1.1) ∧ W.cell? ⟨g14, 1, none⟩ = some (.int .i64 e.1.2) ∧ W.cell? ⟨g14, 2, none⟩ = some (.int .i64 e.2.1) ∧ W.cell? ⟨g14, 3, none⟩ = some (.int .i64 e.2.2) ∧ W.cell? ⟨g15, 0, none⟩ = some (.int .i64 f.1.1) ∧ W.cell? ⟨g15, 1, none⟩ = some (.int .i64 f.1.2) ∧ W.cell? ⟨g15, 2, none⟩ = some (.int .i64 f.2.1) ∧ W.cell? ⟨g15, 3, none⟩ = some (.int .i64 f.2.2))) (by kernel_rfl) ?_ (fun hHeld => ?_)
               ·(try dsimp only)
                (first | exact HRD.out _ (by assumption) | exact HRD.out _ (Hold.drew (by assumption)))
               refine tZ 0 ?_; refine tZ 1 ?_; refine tZ 2 ?_; refine tZ 3 ?_; refine tZ 4 ?_; refine tZ 5 ?_; refine pZ 6 ?_; refine pZ 7 ?_; refine tZ 8 ?_; refine tZ 9 ?_; refine tZ 10 ?_; refine tZ 11 ?_; refine tZ 12 ?_; refine tZ 13 ?_; refine tZ 14 ?_; refine tZ 15 ?_
               refine wpAnyH_ready (rs := [16]) (by decide +kernel) (by simp) ?_
               refine AllReadyH.cons rfl (fun K hK => ?_) AllReadyH.nil
               (try simp only [jA, jB, jC])
               go_simp
               ((go_at_call 38; (with_reducible refine (ref_back f _).mono ?_); rintro e' w' ⟨rfl, hB⟩; have HS' := Hold.on (by first | assumption | exact Hold.drew (by assumption)) hB; have HT' := Lib.hid (Ed.on (by first | assumption | exact Ed.drew (by assumption)) hB)))
               refine hK.out _ _ ?_ (fun hHeld => ?_)
               focus ((try dsimp only); (first | exact HRD.out _ (by assumption) | exact HRD.out _ (Hold.drew (by assumption))); done)
               clear hK K
               (try simp only [Act.put, jA, jB, jC, jD, jE, jF])
               refine takeSome (i := 17) (v := ?_) (by decide +kernel) rfl (by rfl) (by decide +kernel) (by decide +kernel) (fun _ _ _ h => h) (by assumption) ?_ ?_
               rotate_left
               focus (intro w0 hSw; (try dsimp only at hSw); go_simp; rw [if_pos P1.out, if_neg P2.out]; (try (with_reducible rfl)); done)
               (try simp only [Act.put, jA, jB, jC, jD, jE, jF])
               refine tZ 18 ?_; refine tZ 19 ?_
               refine wpAnyH_done (by decide +kernel) ?_ _
               have HK := Lib.hid HT'.out.1
               go_wp2
               go_ret
               rw [HE.out]
               exact ⟨rfl, HK.out⟩
              ·have HE := Lib.hid (HBADM.out fun h => h3 (by rw [h.2.2 HME.out.symm]; rfl))
               have q1 : (e.1.1 == f.2.1) = true := by simpa using h1
               have q2 : (e.1.2 == f.2.2) = true := by simpa using h2
               have q3 : (e.2.1 == f.1.1) = false := by simpa using h3
               have P1 : Hid (e.1.1 = (bk f).1.1) := h1
               have P2 : Hid (e.1.2 = (bk f).1.2) := h2
               have P3 : Hid (¬ e.2.1 = (bk f).2.1) := h3
               clear h1 h2 h3 HBADM HNXM HBADP HPP HEK HX HY HME
               go_upto_region 29 with (fail)
               refine wp_region_held_drew (S := (fun W => W.cell? ⟨g14, 0, none⟩ = some (.int .i64 e.1.1) ∧ W.cell? ⟨g14, 1, none⟩ = some (.int .i64 e.1.2) ∧ W.cell? ⟨g14, 2, none⟩ = some (.int .i64 e.2.1) ∧ W.cell? ⟨g14, 3, none⟩ = some (.int .i64 e.2.2) ∧ W.cell? ⟨g15, 0, none⟩ = some (.int .i64 f.1.1) ∧ W.cell? ⟨g15, 1, none⟩ = some (.int .i64 f.1.2) ∧ W.cell? ⟨g15, 2, none⟩ = some (.int .i64 f.2.1) ∧ W.cell? ⟨g15, 3, none⟩ = some (.int .i64 f.2.2))) (by kernel_rfl) ?_ (fun hHeld => ?_)
               ·(try dsimp only)
                (first | exact HRD.out _ (by assumption) | exact HRD.out _ (Hold.drew (by assumption)))
               refine tZ 0 ?_; refine tZ 1 ?_; refine tZ 2 ?_; refine tZ 3 ?_; refine tZ 4 ?_; refine tZ 5 ?_; refine pZ 6 ?_; refine pZ 7 ?_; refine tZ 8 ?_; refine tZ 9 ?_; refine tZ 10 ?_; refine tZ 11 ?_; refine tZ 12 ?_; refine tZ 13 ?_; refine tZ 14 ?_; refine tZ 15 ?_
               refine wpAnyH_ready (rs := [16]) (by decide +kernel) (by simp) ?_
               refine AllReadyH.cons rfl (fun K hK => ?_) AllReadyH.nil
               (try simp only [jA, jB, jC])
               go_simp
               ((go_at_call 38; (with_reducible refine (ref_back f _).mono ?_); rintro e' w' ⟨rfl, hB⟩; have HS' := Hold.on (by first | assumption | exact Hold.drew (by assumption)) hB; have HT' := Lib.hid (Ed.on (by first | assumption | exact Ed.drew (by assumption)) hB)))
               refine hK.out _ _ ?_ (fun hHeld => ?_)
               focus ((try dsimp only); (first | exact HRD.out _ (by assumption) | exact HRD.out _ (Hold.drew (by assumption))); done)
               clear hK K
               (try simp only [Act.put, jA, jB, jC, jD, jE, jF])
               refine takeSome (i := 17) (v := ?_) (by decide +kernel) rfl (by rfl) (by decide +kernel) (by decide +kernel) (fun _ _ _ h => h) (by assumption) ?_ ?_
               rotate_left
               focus (intro w0 hSw; (try dsimp only at hSw); go_simp; rw [if_pos P1.out, if_pos P2.out, if_neg P3.out]; (try (with_reducible rfl)); done)
               (try simp only [Act.put, jA, jB, jC, jD, jE, jF])
               refine tZ 18 ?_; refine tZ 19 ?_
               refine wpAnyH_done (by decide +kernel) ?_ _
               have HK := Lib.hid HT'.out.1
               go_wp2
               go_ret
               rw [HE.out]
               exact ⟨rfl, HK.out⟩
              ·have HE := Lib.hid (HBADM.out fun h => h4 (by rw [h.2.2 HME.out.symm]; rfl))
               have q1 : (e.1.1 == f.2.1) = true := by simpa using h1
               have q2 : (e.1.2 == f.2.2) = true := by simpa using h2
               have q3 : (e.2.1 == f.1.1) = true := by simpa using h3
               have q4 : (e.2.2 == f.1.2) = false := by simpa using h4
               have P1 : Hid (e.1.1 = (bk f).1.1) := h1
               have P2 : Hid (e.1.2 = (bk f).1.2) := h2
               have P3 : Hid (e.2.1 = (bk f).2.1) := h3
               have P4 : Hid (¬ e.2.2 = (bk f).2.2) := h4
               clear h1 h2 h3 h4 HBADM HNXM HBADP HPP HEK HX HY HME
               go_upto_region 29 with (fail)
               refine wp_region_held_drew (S := (fun W => W.cell? ⟨g14, 0, none⟩ = some (.int .i64 e.1.1) ∧ W.cell? ⟨g14, 1, none⟩ = some (.int .i64 e.1.2) ∧ W.cell? ⟨g14, 2, none⟩ = some (.int .i64 e.2.1) ∧ W.cell? ⟨g14, 3, none⟩ = some (.int .i64 e.2.2) ∧ W.cell? ⟨g15, 0, none⟩ = some (.int .i64 f.1.1) ∧ W.cell? ⟨g15, 1, none⟩ = some (.int .i64 f.1.2) ∧ W.cell? ⟨g15, 2, none⟩ = some (.int .i64 f.2.1) ∧ W.cell? ⟨g15, 3, none⟩ = some (.int .i64 f.2.2))) (by kernel_rfl) ?_ (fun hHeld => ?_)
               ·(try dsimp only)
                (first | exact HRD.out _ (by assumption) | exact HRD.out _ (Hold.drew (by assumption)))
               refine tZ 0 ?_; refine tZ 1 ?_; refine tZ 2 ?_; refine tZ 3 ?_; refine tZ 4 ?_; refine tZ 5 ?_; refine pZ 6 ?_; refine pZ 7 ?_; refine tZ 8 ?_; refine tZ 9 ?_; refine tZ 10 ?_; refine tZ 11 ?_; refine tZ 12 ?_; refine tZ 13 ?_; refine tZ 14 ?_; refine tZ 15 ?_
               refine wpAnyH_ready (rs := [16]) (by decide +kernel) (by simp) ?_
               refine AllReadyH.cons rfl (fun K hK => ?_) AllReadyH.nil
               (try simp only [jA, jB, jC])
               go_simp
               ((go_at_call 38; (with_reducible refine (ref_back f _).mono ?_); rintro e' w' ⟨rfl, hB⟩; have HS' := Hold.on (by first | assumption | exact Hold.drew (by assumption)) hB; have HT' := Lib.hid (Ed.on (by first | assumption | exact Ed.drew (by assumption)) hB)))
               refine hK.out _ _ ?_ (fun hHeld => ?_)
               focus ((try dsimp only); (first | exact HRD.out _ (by assumption) | exact HRD.out _ (Hold.drew (by assumption))); done)
               clear hK K
               (try simp only [Act.put, jA, jB, jC, jD, jE, jF])
               refine takeSome (i := 17) (v := ?_) (by decide +kernel) rfl (by rfl) (by decide +kernel) (by decide +kernel) (fun _ _ _ h => h) (by assumption) ?_ ?_
               rotate_left
               focus (intro w0 hSw; (try dsimp only at hSw); go_simp; rw [if_pos P1.out, if_pos P2.out, if_pos P3.out, if_neg P4.out]; (try (with_reducible rfl)); done)
               (try simp only [Act.put, jA, jB, jC, jD, jE, jF])
               refine tZ 18 ?_; refine tZ 19 ?_
               refine wpAnyH_done (by decide +kernel) ?_ _
               have HK := Lib.hid HT'.out.1
               go_wp2
               go_ret
               rw [HE.out]
               exact ⟨rfl, HK.out⟩
           ·obtain rfl : m = es.length := by omega
            have HPK : Hid (∀ i j, i < k + 1 → i < j → j < es.length → PairP es i j) := fun i j h1 h2 h3 => by
             by_cases ei : i = k
             ·subst ei; exact HPM.out j h2 h3
             ·exact HPP.out i j (by omega) h2 h3
            have HBK := Lib.hid HB
            clear HB HPM HBADP HPP
            go_wp2
            go_roundg (es.length - (k + 1))
            case measure => have := HGK.out; omega
            case rel => exact ⟨k + 1, by omega, rfl, by go_num, HEK.out, HPK.out, HBK.out⟩
         ·have HE := Lib.hid (HBADE.out (hbb.1 rfl))
          have HK := Lib.hid HB.1
          clear hbb HBADE HBADP HNE HPP HB
          go_wp2
          go_ret
          rw [HE.out]
          exact ⟨rfl, HK.out⟩
       ·obtain rfl : k = es.length := by omega
        have HEPA : Hid (∀ i, i < es.length → EdgeP o es i) := HEP.out
        have HPPA : Hid (∀ i j, i < j → j < es.length → PairP es i j) := fun i j h1 h2 => HPP.out i j (by omega) h1 h2
        clear HEP HPP
        have HLE : Hid (es.length ≤ 1024 ∧ (edg o).length ≤ 1024) := by have := HLIM.out; rw [edg_len]; exact ⟨by omega, by omega⟩
        have HOL : Hid ((edg o).length = o.length) := edg_len o
        go_wp2_with fail
        go_loopg [18] (edg o).length (fun g i wr => ∃ k : Nat, k ≤ (edg o).length ∧ g = (edg o).length - k ∧ i = .int .i64 k ∧ (∀ e ∈ (edg o).take k, e ∈ es) ∧ Ed w A9 es A10 (edg o) wr)
        case atStart => exact ⟨0, Nat.zero_le _, rfl, rfl, fun e he => by simp at he, HB⟩
        case round =>
         clear HB
         obtain ⟨m, hm, hgm, rfl, hno, HB⟩ := hrel
         have HGM := Lib.hid hgm
         have HNB := Lib.hid hno
         clear hgm hno
         by_cases hltm : m < (edg o).length
         ·obtain ⟨ad, hA, -, -⟩ := Items.get kindG.len HB.2.2 hltm
          subst hA
          have HX : Hid ((edg o)[m]? = some (edg o)[m]) := List.getElem?_eq_getElem hltm
          have HME := Lib.hid (List.getElem_mem hltm)
          have HNXB : Hid ((edg o)[m] ∈ es → ∀ e ∈ (edg o).take (m + 1), e ∈ es) := fun h e he => by
           rw [List.take_succ_eq_append_getElem hltm, List.mem_append, List.mem_singleton] at he
           rcases he with he | rfl
           ·exact HNB.out e he
           ·exact h
          have HBADB : Hid ((edg o)[m] ∉ es → chkB o l = false) := fun h => chkB_not.2 fun hc => h (by have := hc.2.2.2.2.2.2 _ HME.out; rw [HES.out] at this; exact this)
          have HPE := Lib.hid (fun (x : (Int × Int) × (Int × Int)) W (h : Ed w A9 es (some ad) (edg o) W) => ref_place es A9 c9 x (by have := HLE.out.1; omega) W h.2.1)
          have b0 : (0 : Int) ≤ (m : Int) := by omega
          have b1 : (m : Int) < ((edg o).length : Int) := by omega
          have z4 := wrap_in (n := (m : Int)) (by omega) (by have := HLE.out.2; omega)
          have z5 := wrap_in (n := (m : Int) + 1) (by omega) (by have := HLE.out.2; omega)
          clear HNB HME
          generalize (edg o)[m] = e at *
          obtain ⟨d0, d1, d2, d3⟩ := edge_cells rfl HB.2.2 HX.out
          go_wp2_with fail
          go_at_call 37
          refine (HPE.out e _ HB).mono ?_
          rintro e' w12 ⟨n1, rfl, hp1, hB⟩
          replace HB := HB.on hB
          have HP1 := Lib.hid hp1.pos
          clear hB hp1 HPE d0 d1 d2 d3
          by_cases h1 : 0 ≤ n1
          ·have HN := Lib.hid (HNXB.out (HP1.out.1 h1))
           have q1 : decide (n1 < 0) = false := decide_eq_false (by omega)
           have HBK := Lib.hid HB
           clear HB HBADB HNXB HP1
           go_wp2
           go_roundg ((edg o).length - (m + 1))
           case measure => have := HGM.out; omega
           case rel => exact ⟨m + 1, by omega, rfl, by go_num, HN.out, HBK.out⟩
          ·have HE := Lib.hid (HBADB.out fun h => h1 (HP1.out.2 h))
           have q1 : decide (n1 < 0) = true := decide_eq_true (by omega)
           have HK := Lib.hid HB.1
           clear HB HBADB HNXB HP1
           go_wp2
           go_ret
           rw [HE.out]
           exact ⟨rfl, HK.out⟩
         ·obtain rfl : m = (edg o).length := by omega
          have HE : Hid (chkB o l = true) := chkB_iff.2 ⟨HFP.out, HNO.out, HALL.out, HS.out, by rw [HES.out]; exact HEPA.out, by rw [HES.out]; exact HPPA.out, by rw [HES.out]; exact fun e he => HNB.out e (by rw [List.take_length]; exact he)⟩
          have HK := Lib.hid HB.1
          clear HB HNB HEPA HPPA
          go_wp2
          go_ret
          rw [HE.out]
          exact ⟨rfl, HK.out⟩
     ·have HE : Hid (chkB o l = false) := chkB_not.2 fun h => hs h.2.2.2.1
      have HK := Lib.hid HB8.1
      rcases hiLo_ne hs with h1 | ⟨h1, h2⟩
      ·have e4 : (hiOf (areaS l l.length) == hiOf (area o)) = false := by simpa using h1
       clear h1 hs HB8 HALLE HEDG HR HRO
       go_wp2
       go_ret
       rw [HE.out]
       exact ⟨rfl, HK.out⟩
      ·have e4 : (hiOf (areaS l l.length) == hiOf (area o)) = true := by simpa using h1
       have e5 : (loOf (areaS l l.length) == loOf (area o)) = false := by simpa using h2
       clear h1 h2 hs HB8 HALLE HEDG HR HRO
       go_wp2
       go_ret
       rw [HE.out]
       exact ⟨rfl, HK.out⟩
 ·rw [fineB_not.2 hf]
  have HE : Hid (chkB o l = false) := chkB_not.2 fun h => hf h.1
  have HK := Lib.hid HQ.1
  clear hf HQ HN HR HRO
  go_wp2
  go_ret
  rw [HE.out]
  exact ⟨rfl, HK.out⟩
end Go.Proofs.YtjlnjjmomohpaaaGreat
