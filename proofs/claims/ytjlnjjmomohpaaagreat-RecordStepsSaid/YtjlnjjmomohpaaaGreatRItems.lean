/- Layer record: the program's Items. -/
import Derived.Test.YtjlnjjmomohpaaaGreatRPar2
import Derived.Test.YtjlnjjmomohpaaaGreatRSort
import Derived.Test.YtjlnjjmomohpaaaGreatPlanB
namespace Go.Proofs.YtjlnjjmomohpaaaGreat
open Go.RowKit Go.Lib

theorem ItRow.its {w W : World} {v : Value} {l : List Itm} (h : ItRow w v l W) : ∃ A c l', v = .slice A l'.length c ∧ ItsAt W A l' ∧ NilOk A c ∧ l'.map IV.it = l := by
 obtain ⟨A, c, l', e, h1, h2, h3, h4⟩ := h.items
 exact ⟨A, c, l', by rw [h4]; exact e, h1, h2, h3⟩
theorem itmL_take {o : List (Int × Int)} {l : List PV} {k : Nat} (hk : k < l.length) : itmL o ((l.take (k + 1)).map PV.par) = itmL o ((l.take k).map PV.par) ++ parL l[k].par ++ edgL l[k].par ++ celL l[k].par := by
 rw [List.take_succ_eq_append_getElem hk]
 unfold itmL
 rw [List.map_append, List.flatMap_append]
 simp only [List.map_cons, List.map_nil, List.flatMap_cons, List.flatMap_nil, List.append_nil]
 unfold onL
 simp only [List.append_assoc]
theorem itmL_le (o : List (Int × Int)) (l : List PV) (k : Nat) : (itmL o ((l.take k).map PV.par)).length ≤ (itmL o (l.map PV.par)).length := by
 conv => rhs; rw [← List.take_append_drop k l]
 unfold itmL
 rw [List.map_append, List.flatMap_append]
 simp only [List.length_append]
 omega
theorem parcel_ok {o : List (Int × Int)} {l : List PV} (h : CheckP o l) {x : PV} (hx : x ∈ l) : idB x.par.id = true ∧ x.par.own.size ≤ 1000 ∧ x.par.ring.length ≤ 128 ∧ (∀ p ∈ x.par.ring, Gd p) ∧ chE x.par.ring = 0 := by
 obtain ⟨h1, h2⟩ := (check_ids h).1 x hx
 have hn := h.2.2.1 x hx
 obtain ⟨-, h3, h4⟩ := normP_small hn
 exact ⟨h1, by have := h2.2; omega, h3, h4, hn.1⟩
set_option maxRecDepth 100000 in
set_option maxHeartbeats 8000000 in
theorem Items_good (o : List (Int × Int)) (Ao : Option Addr) (co : Nat) (l : List PV) (Ap : Option Addr) (cp : Nat) (hc : CheckP o l) (w : World) (h : PlanAt w o Ao co l Ap cp) :
  Calls Tryz.prog 11 #[.agg #[.slice Ao o.length co, .slice Ap l.length cp]] w fun e w' => ∃ v L, e = .returned (.tuple #[v, .int .i64 0]) ∧ L.Perm (itmL o (l.map PV.par)) ∧ L.Pairwise KeyLt ∧ ItRow w v L w' := by
 have HQ := (Hold.refl w).new #[.slice Ao o.length co, .slice Ap l.length cp] 26
 have hl64 := hc.1.2.2.1
 obtain ⟨-, ho1, ho2⟩ := normP_small hc.2.1
 have hown : ∀ x ∈ l, x.par.own.size ≤ maxLen := fun x hx => by have := (parcel_ok hc hx).2.1; unfold maxLen; omega
 have HPL := Lib.hid (fun W (hb : Below w.heap.size w W) => h.on hb)
 have hP := h.on HQ.1
 have hck := PCheck_any o Ao co l Ap cp (by omega) (by omega) hP.caps.1 hP.caps.2 hown _ hP.prs hP.out
 rw [ckE_true (by rw [check_eq]; exact chkB_iff.2 hc)] at hck
 have HCK := Lib.hid hck
 have HCP := Lib.hid hc
 have hcap := h.caps.1
 have HO := Lib.hid (fun W (hb : Below w.heap.size w W) => outerItems_any o Ao co ho1 hcap ho2 W ((h.on hb).out))
 have HNE := Lib.hid (itmL_ne hc)
 have HLN := Lib.hid (itmL_len hc)
 clear hck hP h hc ho1 ho2 hown hcap
 obtain ⟨c0, c1⟩ := HQ.pt (.head _)
 have HQ0 := Lib.hid HQ
 go_enter Tryz.func11, Tryz.ntmps11
 go_upto_region 4 with (go_at_call 24; go_must ((with_reducible refine HCK.out.mono ?_); rintro e' w1 ⟨rfl, hB1⟩; have hq1 := HQ0.out.on hB1; obtain ⟨d0, d1⟩ := hq1.pt (.head _); have HQ1 := Lib.hid hq1; clear hB1 hq1))
 clear c0 c1 HQ HCK
 have HOC := Lib.hid (HO.out _ HQ1.out.1)
 go_upto_region 5 with (go_at_call 25; go_must ((with_reducible refine HOC.out.mono ?_); rintro e' w2 ⟨v2, rfl, hR2⟩; have HR2 := Lib.hid (hR2.base HQ1.out.1); have hq2 := HQ1.out.on hR2.below; obtain ⟨e0, e1⟩ := hq2.pt (.head _); have HQ2 := Lib.hid hq2; clear hR2 hq2))
 clear d0 d1 HOC HO
 obtain ⟨g0, hg0⟩ : ∃ g, w.heap.size = g := ⟨_, rfl⟩
 have HG0 := Lib.hid hg0
 have HQ3 := Lib.hid HQ2.out
 rw [hg0] at HQ3 e0 e1 ⊢
 clear hg0
 go_wp2_with fail
 clear e0 e1
 go_loopg [5, 19] l.length (fun g v i wr => ∃ k : Nat, k ≤ l.length ∧ g = l.length - k ∧ i = .int .i64 k ∧ Hold w [(g0, #[.slice Ao o.length co, .slice Ap l.length cp], 26)] wr ∧ ItRow w v (itmL o ((l.take k).map PV.par)) wr)
 case atStart => exact ⟨0, Nat.zero_le _, rfl, rfl, HQ3.out, by rw [List.take_zero]; unfold itmL; simpa using HR2.out⟩
 case round =>
  obtain ⟨k, hk, hgk, rfl, HB, HV⟩ := hrel
  have HGK := Lib.hid hgk
  clear hgk
  by_cases hlt : k < l.length
  ·have hw := (HPL.out _ HB.1).prs
   obtain ⟨ad, hA, -, d0, d1, d2⟩ := hw.at hlt
   have hT := Lib.hid (itmL_take (o := o) hlt)
   have hbd : Hid ((itmL o ((l.take k).map PV.par)).length + (parL l[k].par).length + (edgL l[k].par).length + (celL l[k].par).length ≤ 14000) := by
    have h1 := itmL_le o l (k + 1)
    have h2 := HLN.out
    rw [hT.out] at h1
    simp only [List.length_append] at h1
    unfold Hid; omega
   obtain ⟨p1, p2, p3, p4, p5⟩ := parcel_ok HCP.out (List.getElem_mem hlt)
   have HPT := Lib.hid (fun W (hb : Below w.heap.size w W) => ((HPL.out W hb).prs.2 l[k] (List.getElem_mem hlt)).1)
   have hcx := (HPL.out _ HB.1).caps.2 l[k] (List.getElem_mem hlt)
   have H1 := Lib.hid (fun W (hb : Below w.heap.size w W) => parcelItems_any l[k] p1 p3 hcx p4 p2 W (HPT.out W hb))
   have H2 := Lib.hid (fun W (hb : Below w.heap.size w W) => edgeItems_any l[k] p1 p4 p3 W (HPT.out W hb))
   have H3 := Lib.hid (fun W (hb : Below w.heap.size w W) => cellItems_any l[k] p1 p5 W (HPT.out W hb))
   have b0 : (0 : Int) ≤ (k : Int) := by omega
   have b1 : (k : Int) < (l.length : Int) := by omega
   have hk0 : IntKind.i64.wrap ((k : Int) + 1) = (k : Int) + 1 := IntWalk.i64_in _ (by omega)
   have HN1 := HB.new #[.int .i64 (l[k]).par.id, .slice (l[k]).A (l[k]).par.ring.length (l[k]).cap, .string (l[k]).par.own] 58
   have hbx : Below wr.heap.size wr (wr.alloc (Obj.cells #[.int .i64 (l[k]).par.id, .slice (l[k]).A (l[k]).par.ring.length (l[k]).cap, .string (l[k]).par.own] 58 (0, 0))) := (Below.refl _ wr).alloc (Nat.le_refl _) _
   have HV1 := HV.on hbx
   clear hw p1 p2 p3 p4 p5 hcx HPT HV hbx HB
   subst hA
   generalize itmL o ((l.take k).map PV.par) = L0 at *
   generalize parL l[k].par = L1 at *
   generalize edgL l[k].par = L2 at *
   generalize celL l[k].par = L3 at *
   generalize l[k] = x at *
   go_upto_region 8 with (fail)
   clear d0 d1 d2
   generalize (World.alloc _ _) = W1 at HN1 HV1 ⊢
   generalize wr.heap.size = g7 at HN1 ⊢
   obtain ⟨x0, x1, x2⟩ : W1.cell? ⟨g7, 0, none⟩ = some (.int .i64 x.par.id) ∧ W1.cell? ⟨g7, 1, none⟩ = some (.slice x.A x.par.ring.length x.cap) ∧ W1.cell? ⟨g7, 2, none⟩ = some (.string x.par.own) := ⟨HN1.cell (.head _) 0, HN1.cell (.head _) 1, HN1.cell (.head _) 2⟩
   have HC1 := Lib.hid (H1.out _ HN1.1)
   go_upto_region 9 with (first
    |(go_at_call 26; go_must ((with_reducible refine HC1.out.mono ?_); rintro e' W2 ⟨v2, rfl, hR2⟩; obtain ⟨A2, c2, l2, rfl, hi2, hn2, hm2⟩ := hR2.its; have HI2 := Lib.hid hi2; have HM2 := Lib.hid hm2; have HL2 := Lib.hid hn2; have HV2 := Lib.hid (HV1.on hR2.below); have HN2 := Lib.hid (HN1.on hR2.below); clear hR2 hi2 hm2 hn2))
    |(at_builtin; go_must (refine append_its HV2.out l2 A2 c2 HI2.out HL2.out (by have := hbd.out; have h2 := congrArg List.length HM2.out; rw [List.length_map] at h2; omega) rfl _ _ rfl rfl rfl ?_; rintro v3 W3 hR3 hk3; rw [HM2.out] at hR3; have HN3 := Lib.hid (HN2.out.keepT hR3.below hk3 (by simp)); have HV3 := Lib.hid hR3; clear hR3 hk3)))
   clear x0 x1 x2 HC1 HI2 HL2 HV2 HN2
   obtain ⟨x0, x1, x2⟩ : W3.cell? ⟨g7, 0, none⟩ = some (.int .i64 x.par.id) ∧ W3.cell? ⟨g7, 1, none⟩ = some (.slice x.A x.par.ring.length x.cap) ∧ W3.cell? ⟨g7, 2, none⟩ = some (.string x.par.own) := ⟨HN3.out.cell (.head _) 0, HN3.out.cell (.head _) 1, HN3.out.cell (.head _) 2⟩
   have HC2 := Lib.hid (H2.out _ HN3.out.1)
   go_upto_region 10 with (first
    |(go_at_call 27; go_must ((with_reducible refine HC2.out.mono ?_); rintro e' W4 ⟨v4, rfl, hR4⟩; obtain ⟨A4, c4, l4, rfl, hi4, hn4, hm4⟩ := hR4.its; have HI4 := Lib.hid hi4; have HM4 := Lib.hid hm4; have HL4 := Lib.hid hn4; have HV4 := Lib.hid (HV3.out.on hR4.below); have HN4 := Lib.hid (HN3.out.on hR4.below); clear hR4 hi4 hm4 hn4))
    |(at_builtin; go_must (refine append_its HV4.out l4 A4 c4 HI4.out HL4.out (by have := hbd.out; have h2 := congrArg List.length HM4.out; rw [List.length_map] at h2; rw [List.length_append]; omega) rfl _ _ rfl rfl rfl ?_; rintro v5 W5 hR5 hk5; rw [HM4.out] at hR5; have HN5 := Lib.hid (HN4.out.keepT hR5.below hk5 (by simp)); have HV5 := Lib.hid hR5; clear hR5 hk5)))
   clear x0 x1 x2 HC2 HI4 HL4 HV4 HN4
   obtain ⟨x0, x1, x2⟩ : W5.cell? ⟨g7, 0, none⟩ = some (.int .i64 x.par.id) ∧ W5.cell? ⟨g7, 1, none⟩ = some (.slice x.A x.par.ring.length x.cap) ∧ W5.cell? ⟨g7, 2, none⟩ = some (.string x.par.own) := ⟨HN5.out.cell (.head _) 0, HN5.out.cell (.head _) 1, HN5.out.cell (.head _) 2⟩
   have HC3 := Lib.hid (H3.out _ HN5.out.1)
   go_upto_region 11 with (first
    |(go_at_call 28; go_must ((with_reducible refine HC3.out.mono ?_); rintro e' W6 ⟨v6, rfl, hR6⟩; obtain ⟨A6, c6, l6, rfl, hi6, hn6, hm6⟩ := hR6.its; have HI6 := Lib.hid hi6; have HM6 := Lib.hid hm6; have HL6 := Lib.hid hn6; have HV6 := Lib.hid (HV5.out.on hR6.below); have HN6 := Lib.hid (HN5.out.on hR6.below); clear hR6 hi6 hm6 hn6))
    |(at_builtin; go_must (refine append_its HV6.out l6 A6 c6 HI6.out HL6.out (by have := hbd.out; have h2 := congrArg List.length HM6.out; rw [List.length_map] at h2; rw [List.length_append, List.length_append]; omega) rfl _ _ rfl rfl rfl ?_; rintro v7 W7 hR7 hk7; rw [HM6.out] at hR7; have HN7 := Lib.hid (HN6.out.keepT hR7.below hk7 (by simp)); have HV7 := Lib.hid hR7; clear hR7 hk7)))
   clear x0 x1 x2
   go_wp2
   go_roundg (l.length - (k + 1))
   case measure => have := HGK.out; omega
   case rel => exact ⟨k + 1, by omega, rfl, by go_num, HN7.out.tail, by rw [hT.out]; exact HV7.out⟩
  ·obtain rfl : k = l.length := by omega
   rw [List.take_length] at HV
   have hsl := sortI_any w wr u5 _ (by have := HLN.out; omega) HV
   have HS := Lib.hid hsl
   clear hsl HV HB
   go_wp2_with (go_at_call 29; go_must ((with_reducible refine HS.out.mono ?_); rintro e' W9 ⟨rfl, L, hp, hs, hR9⟩; have HR9 := Lib.hid hR9; have HP9 := Lib.hid hp; have HL9 := Lib.hid (keyLt_of hp HNE.out hs); clear hR9 hp hs))
   refine bodyPost_ret (v := .tuple #[u5, .int .i64 0]) ?_ rfl ⟨u5, L, rfl, HP9.out, HL9.out, HR9.out⟩
   simp [results, Tryz.results11, go_sem]
end Go.Proofs.YtjlnjjmomohpaaaGreat
