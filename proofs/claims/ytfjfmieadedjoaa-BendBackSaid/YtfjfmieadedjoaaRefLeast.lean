/- The document's ring with a corner more, if the point lies within an edge. -/
import Derived.Test.YtfjfmieadedjoaaCutV
import Derived.Test.YtfjfmieadedjoaaRefFine
import Derived.Test.YtfjfmieadedjoaaPlanB
namespace Go.Proofs.Ytfjfmieadedjoaa
open Go.RowKit

end Go.Proofs.Ytfjfmieadedjoaa

namespace Go.Proofs.Ytfjfmieadedjoaa
open Go.RowKit
set_option maxRecDepth 100000 in
set_option maxHeartbeats 1000000 in
theorem Own_own (o : List (Int × Int)) (Ao : Option Addr) (co : Nat) (l : List PV) (Ap : Option Addr) (cp : Nat) (hl : l.length ≤ 1000000) (w : World) (h : PlanAt w o Ao co l Ap cp) :
  Calls Try.prog 7 #[.agg #[.slice Ao o.length co, .slice Ap l.length cp]] w fun e w' => Below w.heap.size w w' ∧ ∃ A1 c1 l' Ap1 cp1, e = .returned (.agg #[.slice A1 o.length c1, .slice Ap1 l.length cp1]) ∧ l'.map PV.par = l.map PV.par ∧ PlanAt w' o A1 c1 l' Ap1 cp1 ∧ Row w (.slice A1 o.length c1) o w' ∧ RowI w 39 3 encV (.slice Ap1 l.length cp1) l' w' ∧ OwnRs w l' w' := by
 have HPR := Lib.hid (fun W (hb : Below w.heap.size w W) => h.prs.on hb)
 have HPO := Lib.hid (fun W (hb : Below w.heap.size w W) => h.out.on hb)
 have HNI := Lib.hid h.nil
 have HRO := Lib.hid h.room
 have HQ := ((Hold.refl w).new #[.slice Ao o.length co, .slice Ap l.length cp] 26).new' #[.slice none 0 0, .slice none 0 0] 26 (n := w.heap.size + 1) (by simp)
 clear h
 go_enter Try.func7, Try.ntmps7
 go_upto_region 1 with (fail)
 generalize (World.alloc (World.alloc w _) _) = W1 at HQ ⊢
 generalize w.heap.size + 1 = g2 at HQ ⊢
 obtain ⟨g1, hg1⟩ : ∃ g, w.heap.size = g := ⟨_, rfl⟩
 have HG1 := Lib.hid hg1
 rw [hg1] at HQ ⊢
 clear hg1
 obtain ⟨c0, c1⟩ := HQ.pt (List.mem_cons_of_mem _ List.mem_cons_self)
 have HQX := Lib.hid HQ
 have hz1 := HQX.out.lt (List.mem_cons_of_mem _ List.mem_cons_self)
 have HMD := Lib.hid (Row.made W1 28 rfl)
 clear HQ
 go_upto_region 2 with (at_builtin; go_must (refine append_pts _ Try.underlying23 HMD.out o Ao co (HPO.out _ (Below.trans HQX.out.1 (HMD.out.1.mono HQX.out.1.size))) HNI.out (by have := HRO.out; simpa using this) rfl _ _ rfl rfl rfl ?_; rintro v1 W2 HR1; have hq2 := HQX.out.on HR1.1; have hr1 := HR1.base HQX.out.1; rw [List.nil_append] at hr1; obtain ⟨A1, cA, rfl, -, hn1, hc1⟩ := hr1.full; have HN1 := Lib.hid hn1; have HC1 := Lib.hid hc1; have HR2 := Lib.hid hr1; have HQ2 := Lib.hid hq2; clear HR1 hr1 hn1 hc1 hq2))
 clear c0 c1 hz1
 have HQ3 := HQ2.out.new #[.slice A1 o.length cA, .slice none 0 0] 26
 have HR3 := HR2.out.alloc (Obj.cells #[.slice A1 o.length cA, .slice none 0 0] 26 (0, 0))
 generalize (World.alloc _ _) = W3 at HQ3 HR3 ⊢
 generalize W2.heap.size = g3 at HQ3 ⊢
 clear HQX HMD
 obtain ⟨c0, c1⟩ := HQ3.pt (List.mem_cons_of_mem _ (List.mem_cons_of_mem _ List.mem_cons_self))
 have HQY := Lib.hid HQ3
 have HRY := Lib.hid HR3
 clear HQ3 HR3 HR2 HQ2
 go_wp2_with fail
 clear c0 c1
 go_loopg [4] l.length (fun g i wr => ∃ (k : Nat) (v : Value) (l' : List PV), k ≤ l.length ∧ g = l.length - k ∧ i = .int .i64 k ∧ l'.map PV.par = (l.take k).map PV.par ∧ Row w (.slice A1 o.length cA) o wr ∧ RowI w 39 3 encV v l' wr ∧ OwnRs w l' wr ∧ Hold w [(g3, #[.slice A1 o.length cA, v], 26), (g2, #[.slice none 0 0, .slice none 0 0], 26), (g1, #[.slice Ao o.length co, .slice Ap l.length cp], 26)] wr)
 case atStart => exact ⟨0, .slice none 0 0, [], Nat.zero_le _, rfl, rfl, rfl, HRY.out, RowI.nil HRY.out.1, (fun x hx => (by cases hx)), HQY.out⟩
 case round =>
  obtain ⟨k, v, l', hk, hgk, rfl, hmap, HO, HV, HOR, HB⟩ := hrel
  have HGK := Lib.hid hgk
  have HMAP := Lib.hid hmap
  clear hgk hmap
  obtain ⟨c0, c1'⟩ := HB.pt (List.mem_cons_of_mem _ (List.mem_cons_of_mem _ List.mem_cons_self))
  by_cases hlt : k < l.length
  ·have hw := HPR.out _ HB.1
   obtain ⟨ad, rfl, -, d0, d1, d2⟩ := hw.at hlt
   obtain ⟨hp, hnil, hsz⟩ := hw.2 l[k] (List.getElem_mem hlt)
   have b0 : (0 : Int) ≤ (k : Int) := by omega
   have b1 : (k : Int) < (l.length : Int) := by omega
   have HMT : Hid ((l.take (k + 1)).map PV.par = (l.take k).map PV.par ++ [l[k].par]) := by
    unfold Hid
    rw [List.take_succ_eq_append_getElem hlt, List.map_append]; rfl
   have HLL : Hid (l'.length ≤ 1000000) := by
    have := congrArg List.length HMAP.out
    rw [List.length_map, List.length_map, List.length_take] at this
    unfold Hid; omega
   have HP := Lib.hid hp
   have HNL := Lib.hid hnil
   have HSZ := Lib.hid hsz
   clear hw hp hnil hsz
   generalize l[k].par = x at *
   generalize l[k].A = Ak at *
   generalize l[k].cap = ck at *
   go_upto_region 6 with (fail)
   have hb1 := (Below.refl wr.heap.size wr).alloc (Nat.le_refl _) (.cells #[.int .i64 x.id, .slice Ak x.ring.length ck, .string x.own] 39 (0, 0))
   have HQ := HB.new #[.int .i64 x.id, .slice Ak x.ring.length ck, .string x.own] 39
   have HP1 := HP.out.on hb1
   have HO1 := HO.on hb1
   have HV1 := HV.on hb1
   have HOR1 := HOR.on hb1
   have HNV := Lib.hid (HV.row_ne (Nat.le_refl _))
   clear HB HP HO HV HOR hb1 d0 d1 d2 c0 c1'
   generalize (World.alloc _ _) = W5 at HQ HP1 HO1 HV1 HOR1 ⊢
   generalize wr.heap.size = g5 at HQ HNV ⊢
   have k1 := HQ.cell (.head _) 1
   simp only [List.getElem?_toArray, List.getElem?_cons_zero, List.getElem?_cons_succ] at k1
   have hz5 := HQ.lt (.head _)
   have HMD := Lib.hid (Row.made W5 28 rfl)
   have HQ5 := Lib.hid HQ
   have HP5 := Lib.hid HP1
   have HO5 := Lib.hid HO1
   have HV5 := Lib.hid HV1
   have HOR5 := Lib.hid HOR1
   clear HQ HP1 HO1 HV1 HOR1
   go_upto_region 7 with (at_builtin; go_must (refine append_pts _ Try.underlying23 HMD.out x.ring Ak ck (HP5.out.on HMD.out.1) HNL.out (by have := HSZ.out; simpa using this) rfl _ _ rfl rfl rfl ?_; rintro v6 W6 HR6; rw [List.nil_append] at HR6; have hq6 := HQ5.out.on HR6.1; have hr6 := HR6.base HQ5.out.1; obtain ⟨A6, c6, rfl, -, hn6, hc6⟩ := hr6.full; have k6 := hq6.frozen (.head _) 1; have HN6 := Lib.hid hn6; have HC6 := Lib.hid hc6; have HR7 := Lib.hid hr6; have HQ6 := Lib.hid hq6; have HO6 := Lib.hid (HO5.out.on HR6.1); have HV6 := Lib.hid (HV5.out.on HR6.1); have HOR6 := Lib.hid (HOR5.out.on HR6.1); have k7 := hq6.cell (.head _) 1; clear HR6 hr6 hn6 hc6 hq6))
   clear k1 hz5
   have HQ7 : Hold w [(g5, #[.int .i64 x.id, .slice A6 x.ring.length c6, .string x.own], 39), (g3, #[.slice A1 o.length cA, v], 26), (g2, #[.slice none 0 0, .slice none 0 0], 26), (g1, #[.slice Ao o.length co, .slice (some ad) l.length cp], 26)] (W6.setCell ⟨g5, 1, none⟩ (.slice A6 x.ring.length c6)) := HQ6.out.set 1 (.slice A6 x.ring.length c6)
   have hh5 := (HQ6.out.2.1 _ (.head _)).1
   have HV7 : RowI w 39 3 encV v l' (W6.setCell ⟨g5, 1, none⟩ (.slice A6 x.ring.length c6)) := ⟨HQ7.1, row_far_set HV6.out.2 HNV.out 1 _⟩
   have HO7 : Row w (.slice A1 o.length cA) o (W6.setCell ⟨g5, 1, none⟩ (.slice A6 x.ring.length c6)) := ⟨HQ7.1, row_far_set HO6.out.2 (row_block HO6.out.2 hh5 (show (39 : Nat) ≠ 28 by decide)) 1 _⟩
   have HOR7 := HOR6.out.set hh5 (show (39 : Nat) ≠ 28 by decide) 1 (.slice A6 x.ring.length c6)
   have HNR7 := row_far_set HR7.out.2 (row_block HR7.out.2 hh5 (show (39 : Nat) ≠ 28 by decide)) 1 (.slice A6 x.ring.length c6)
   have HOX : Hid (OwnRs w (l' ++ [⟨x, A6, c6⟩]) (W6.setCell ⟨g5, 1, none⟩ (.slice A6 x.ring.length c6))) := fun y hy => by
    rcases List.mem_append.1 hy with hy | hy
    ·exact HOR7 y hy
    ·obtain rfl := List.mem_singleton.1 hy
     exact HNR7
   clear hh5 HOR7 HNR7 HV6 HO6 HOR6 HR7 HQ6 HQ5 HP5 HO5 HV5 HOR5 HMD k6 k7
   generalize (World.setCell W6 _ _) = W7 at HQ7 HV7 HO7 HOX ⊢
   have k0 := HQ7.cell (.head _) 0
   have k1 := HQ7.cell (.head _) 1
   have k2 := HQ7.cell (.head _) 2
   have m1 := HQ7.cell (List.mem_cons_of_mem _ List.mem_cons_self) 1
   simp only [List.getElem?_toArray, List.getElem?_cons_zero, List.getElem?_cons_succ] at k0 k1 k2 m1
   have HNG3 := Lib.hid (HV7.apart (HQ7.2.1 _ (List.mem_cons_of_mem _ List.mem_cons_self)).1 (show (26 : Nat) ≠ 39 by decide))
   have HNG2 := Lib.hid (HV7.apart (HQ7.2.1 _ (List.mem_cons_of_mem _ (List.mem_cons_of_mem _ List.mem_cons_self))).1 (show (26 : Nat) ≠ 39 by decide))
   have HNG1 := Lib.hid (HV7.apart (HQ7.2.1 _ (List.mem_cons_of_mem _ (List.mem_cons_of_mem _ (List.mem_cons_of_mem _ List.mem_cons_self)))).1 (show (26 : Nat) ≠ 39 by decide))
   have HV8 := Lib.hid HV7
   have HQ8 := Lib.hid HQ7
   have HO8 := Lib.hid HO7
   clear HV7 HQ7 HO7
   go_wp2_with (at_builtin; go_must (refine append_itemG kindV Try.underlying24 HV8.out ⟨x, A6, c6⟩ 39 #[.int .i64 x.id, .slice A6 x.ring.length c6, .string x.own] rfl (by have := HLL.out; unfold maxLen; omega) (by have := HLL.out; omega) rfl _ _ rfl rfl 1 rfl ?_; rintro v9 w9 HR9 hg9; have hq9 := Hold.grow (HQ8.out.alloc (Obj.cells #[.int .i64 x.id, .slice A6 x.ring.length c6, .string x.own] 39 (0, 0))) HR9.1 hg9 (fun e he => by rcases List.mem_cons.1 he with rfl | he; exact HNV.out; rcases List.mem_cons.1 he with rfl | he; exact HNG3.out; rcases List.mem_cons.1 he with rfl | he; exact HNG2.out; rcases List.mem_cons.1 he with rfl | he; exact HNG1.out; cases he); have HX9 := Lib.hid (OwnRs.grow (OwnRs.alloc HOX.out (Obj.cells #[.int .i64 x.id, .slice A6 x.ring.length c6, .string x.own] 39 (0, 0))) (HV8.out.alloc (Obj.cells #[.int .i64 x.id, .slice A6 x.ring.length c6, .string x.own] 39 (0, 0))).2 (show (28 : Nat) ≠ 39 by decide) hg9); have HO9 := Lib.hid (((HO8.out.alloc (Obj.cells #[.int .i64 x.id, .slice A6 x.ring.length c6, .string x.own] 39 (0, 0))).2).kept hg9 (rows_apart (HO8.out.alloc (Obj.cells #[.int .i64 x.id, .slice A6 x.ring.length c6, .string x.own] 39 (0, 0))).2 (HV8.out.alloc (Obj.cells #[.int .i64 x.id, .slice A6 x.ring.length c6, .string x.own] 39 (0, 0))).2 (show (28 : Nat) ≠ 39 by decide))); obtain ⟨A9, c9, hv9, -, -⟩ := HR9.items; have hl9 : (l' ++ [(⟨x, A6, c6⟩ : PV)]).length = l'.length + 1 := (by simp); rw [hl9] at hv9; have HRR := Lib.hid HR9; have z1 := hq9.frozen (List.mem_cons_of_mem _ List.mem_cons_self) 1; have z2 := hq9.cell (List.mem_cons_of_mem _ List.mem_cons_self) 1; have HQ9 := Lib.hid hq9; subst hv9; clear HR9 hg9 hq9 hl9))
   have HQ10 : Hold w [(g3, #[.slice A1 o.length cA, .slice A9 (l'.length + 1) c9], 26), (g2, #[.slice none 0 0, .slice none 0 0], 26), (g1, #[.slice Ao o.length co, .slice (some ad) l.length cp], 26)] _ := HQ9.out.tail.set 1 (.slice A9 (l'.length + 1) c9)
   have hh3 := (HQ9.out.2.1 _ (List.mem_cons_of_mem _ List.mem_cons_self)).1
   have hv10 : RowI w 39 3 encV (.slice A9 (l'.length + 1) c9) (l' ++ [(⟨x, A6, c6⟩ : PV)]) (w9.setCell ⟨g3, 1, none⟩ (.slice A9 (l'.length + 1) c9)) := ⟨HQ10.1, row_far_set HRR.out.2 (row_block HRR.out.2 hh3 (show (26 : Nat) ≠ 39 by decide)) 1 _⟩
   have ho10 : Row w (.slice A1 o.length cA) o (w9.setCell ⟨g3, 1, none⟩ (.slice A9 (l'.length + 1) c9)) := ⟨HQ10.1, row_far_set HO9.out (row_block HO9.out hh3 (show (26 : Nat) ≠ 28 by decide)) 1 _⟩
   have hx10 := HX9.out.set hh3 (show (26 : Nat) ≠ 28 by decide) 1 (.slice A9 (l'.length + 1) c9)
   go_roundg (l.length - (k + 1))
   case measure => have := HGK.out; omega
   case rel => exact ⟨k + 1, _, l' ++ [(⟨x, A6, c6⟩ : PV)], by omega, rfl, by go_num, by rw [HMT.out, List.map_append, HMAP.out]; rfl, ho10, hv10, hx10, HQ10⟩
  ·obtain rfl : k = l.length := by omega
   have HMF : Hid (l'.map PV.par = l.map PV.par) := by have := HMAP.out; rwa [List.take_length] at this
   obtain ⟨A9, c9, hv9, -, -⟩ := HV.items
   have hlen : l'.length = l.length := by have := congrArg List.length HMF.out; rwa [List.length_map, List.length_map] at this
   rw [hlen] at hv9
   subst hv9
   obtain ⟨m0, m1⟩ := HB.pt (.head _)
   obtain ⟨y0, y1⟩ := HB.pt (List.mem_cons_of_mem _ List.mem_cons_self)
   obtain ⟨z0, z1⟩ := HB.fz (List.mem_cons_of_mem _ List.mem_cons_self)
   have HBX := Lib.hid HB
   have HVX := Lib.hid HV
   have HOX := Lib.hid HO
   have HRX := Lib.hid HOR
   clear HB HV HO HOR hlen
   go_wp2
   have HE := HBX.out.swap2 (.slice A1 o.length cA) (.slice A9 l.length c9)
   have hh2 := (HBX.out.2.1 _ (List.mem_cons_of_mem _ List.mem_cons_self)).1
   have hh2' := (((Hold.swap HBX.out 0 (.slice A1 o.length cA)).2.1 _ (List.mem_cons_of_mem _ List.mem_cons_self))).1
   have hv : RowI w 39 3 encV (.slice A9 l.length c9) l' ((wr.setCell ⟨g2, 0, none⟩ (.slice A1 o.length cA)).setCell ⟨g2, 1, none⟩ (.slice A9 l.length c9)) := ⟨HE.1, row_far_set (row_far_set HVX.out.2 (row_block HVX.out.2 hh2 (show (26 : Nat) ≠ 39 by decide)) 0 _) (row_block HVX.out.2 hh2 (show (26 : Nat) ≠ 39 by decide)) 1 _⟩
   have ho : Row w (.slice A1 o.length cA) o ((wr.setCell ⟨g2, 0, none⟩ (.slice A1 o.length cA)).setCell ⟨g2, 1, none⟩ (.slice A9 l.length c9)) := ⟨HE.1, row_far_set (row_far_set HOX.out.2 (row_block HOX.out.2 hh2 (show (26 : Nat) ≠ 28 by decide)) 0 _) (row_block HOX.out.2 hh2 (show (26 : Nat) ≠ 28 by decide)) 1 _⟩
   have hrs := (HRX.out.set hh2 (show (26 : Nat) ≠ 28 by decide) 0 (.slice A1 o.length cA)).set hh2' (show (26 : Nat) ≠ 28 by decide) 1 (.slice A9 l.length c9)
   obtain ⟨n0, n1⟩ := HE.pt (List.mem_cons_of_mem _ List.mem_cons_self)
   obtain ⟨i1, i2, i3⟩ := hv.full
   obtain ⟨j1, j2, j3⟩ := ho.whole
   refine bodyPost_ret (v := .agg #[.slice A1 o.length cA, .slice A9 l.length c9]) ?_ rfl ⟨HE.1, A1, cA, l', A9, c9, rfl, HMF.out, ⟨⟨i1, fun x hx => ?_⟩, j1, j2, HRO.out, j3, fun x hx => ?_⟩, ho, hv, hrs⟩
   ·simp [results, Try.results7, go_sem, n0, n1]
   ·obtain ⟨r1, r2, r3⟩ := (show Row w (.slice x.A x.par.ring.length x.cap) x.par.ring _ from ⟨HE.1, hrs x hx⟩).whole
    refine ⟨r1, r2, ?_⟩
    have hm : x.par ∈ l.map PV.par := by rw [← HMF.out]; exact List.mem_map.2 ⟨x, hx, rfl⟩
    obtain ⟨y, hy, e⟩ := List.mem_map.1 hm
    rw [← e]
    exact ((HPR.out w (Below.refl _ _)).2 y hy).2.2
   ·exact ((show Row w (.slice x.A x.par.ring.length x.cap) x.par.ring _ from ⟨HE.1, hrs x hx⟩).whole).2.2

theorem flatV_ring : ∀ (l : List PV) (k : Nat) (x : PV), l[k]? = some x → ∀ (r : List (Int × Int)) (A : Option Addr) (c : Nat), (l.set k ⟨⟨x.par.id, r, x.par.own⟩, A, c⟩).flatMap encV = (l.flatMap encV).set (k * 3 + 1) (.slice A r.length c)
 |[], k, x, h, r, A, c => by simp at h
 |y :: l, 0, x, h, r, A, c => by
  simp only [List.getElem?_cons_zero, Option.some.injEq] at h
  subst h
  simp [encV]
 |y :: l, k + 1, x, h, r, A, c => by
  have ih := flatV_ring l k x (by simpa using h) r A c
  rw [show (k + 1) * 3 + 1 = k * 3 + 1 + 1 + 1 + 1 by omega]
  simp only [List.set_cons_succ, List.flatMap_cons, ih]
  simp [encV]
theorem RowI.ring {w0 W : World} {g n cap : Nat} {l : List PV} (h : RowI w0 39 3 encV (.slice (some ⟨g, 0, none⟩) n cap) l W) {k : Nat} {x : PV} (hx : l[k]? = some x) (r : List (Int × Int)) (A : Option Addr) (c : Nat) :
  RowI w0 39 3 encV (.slice (some ⟨g, 0, none⟩) n cap) (l.set k ⟨⟨x.par.id, r, x.par.own⟩, A, c⟩) (W.setCell ⟨g, k * 3 + 1, none⟩ (.slice A r.length c)) := by
 obtain ⟨hB, hl, h2⟩ := h
 rcases h2 with ⟨e, -⟩ | ⟨g', cap', cur, e, hb, hh, hn, hc, hs, ht⟩
 ·cases e
 ·obtain ⟨e1, rfl, rfl⟩ := Value.slice.inj e
  obtain rfl : g = g' := by simpa using e1
  refine ⟨hB.setCell (p := ⟨g, k * 3 + 1, none⟩) hb _, by rw [flatV_ring l k x hx, List.length_set, List.length_set]; exact hl, .inr ⟨g, cap, cur.setIfInBounds (k * 3 + 1) (.slice A r.length c), by rw [List.length_set], hb, ?_, by rw [List.length_set]; exact hn, hc, ?_, ?_⟩⟩
  ·simp [World.setCell, Array.getElem?_modify, hh]
  ·simp [hs]
  ·rw [flatV_ring l k x hx, ← ht]
   simp [List.take_set]
theorem Hold.other {w W : World} {L : List (Nat × Array Value × TypeId)} {g : Nat} (h : Hold w L W) (hg : w.heap.size ≤ g) (hne : ∀ e ∈ L, e.1 ≠ g) (i : Nat) (x : Value) : Hold w L (W.setCell ⟨g, i, none⟩ x) :=
 ⟨h.1.setCell (p := ⟨g, i, none⟩) hg x, fun e he => ⟨(Below.heap_setCell _ _ _ e.1 (hne e he)).trans (h.2.1 e he).1, (h.2.1 e he).2⟩, h.2.2⟩
theorem OwnRs.base {w w1 W : World} {l : List PV} (h : OwnRs w1 l W) (hb : Below w.heap.size w w1) : OwnRs w l W := fun x hx => ⟨(h x hx).1, (h x hx).2.imp id (fun ⟨g, cap, cur, e, hg, r⟩ => ⟨g, cap, cur, e, Nat.le_trans hb.size hg, r⟩)⟩
structure Og (w : World) (A1 : Option Addr) (o : List (Int × Int)) (c1 : Nat) (Ap : Option Addr) (n : Nat) (l : List PV) (cp g : Nat) (K : List (Nat × Array Value × TypeId)) (W : World) : Prop where
 hold : Hold w ((g, #[.slice A1 o.length c1, .slice Ap n cp], 26) :: K) W
 out : Row w (.slice A1 o.length c1) o W
 row : RowI w 39 3 encV (.slice Ap n cp) l W
 rs : OwnRs w l W
section
variable {w W W' : World} {A1 Ap : Option Addr} {o : List (Int × Int)} {c1 n cp g : Nat} {l : List PV} {K : List (Nat × Array Value × TypeId)}
theorem Og.on (h : Og w A1 o c1 Ap n l cp g K W) (hb : Below W.heap.size W W') : Og w A1 o c1 Ap n l cp g K W' := ⟨h.hold.on hb, h.out.on hb, h.row.on hb, h.rs.on hb⟩
theorem Og.drew (h : Og w A1 o c1 Ap n l cp g K W) : Og w A1 o c1 Ap n l cp g K W.drew := h.on ⟨rfl, rfl, rfl, Nat.le_refl _, fun _ _ => rfl⟩
theorem Og.pts (h : Og w A1 o c1 Ap n l cp g K W) {x : PV} (hx : x ∈ l) : Pts W W.heap.size x.A x.par.ring := (show Row w (.slice x.A x.par.ring.length x.cap) x.par.ring W from ⟨h.hold.1, h.rs x hx⟩).whole.1
theorem Og.outer (h : Og w A1 o c1 Ap n l cp g K W) {A5 : Option Addr} {o5 : List (Int × Int)} {c5 : Nat} (hr : Row w (.slice A5 o5.length c5) o5 W) : Og w A5 o5 c5 Ap n l cp g K (W.setCell ⟨g, 0, none⟩ (.slice A5 o5.length c5)) := by
 have hh := (h.hold.2.1 _ (.head _)).1
 have hq := h.hold.set 0 (.slice A5 o5.length c5)
 exact ⟨hq, ⟨hq.1, row_far_set hr.2 (row_block hr.2 hh (show (26 : Nat) ≠ 28 by decide)) 0 _⟩, ⟨hq.1, row_far_set h.row.2 (row_block h.row.2 hh (show (26 : Nat) ≠ 39 by decide)) 0 _⟩, h.rs.set hh (show (26 : Nat) ≠ 28 by decide) 0 _⟩
theorem Og.ring (h : Og w A1 o c1 Ap n l cp g K W) (hK : ∀ e ∈ K, e.2.2 ≠ 39) {k : Nat} {x : PV} (hx : l[k]? = some x) {A5 : Option Addr} {r : List (Int × Int)} {c5 : Nat} (hr : Row w (.slice A5 r.length c5) r W) :
  ∃ g', Ap = some ⟨g', 0, none⟩ ∧ W.frozen? ⟨g', k * 3 + 1, none⟩ = false ∧ (∃ u, W.cell? ⟨g', k * 3 + 1, none⟩ = some u) ∧ Og w A1 o c1 Ap n (l.set k ⟨⟨x.par.id, r, x.par.own⟩, A5, c5⟩) cp g K (W.setCell ⟨g', k * 3 + 1, none⟩ (.slice A5 r.length c5)) := by
 have hk : k < l.length := by
  rcases Nat.lt_or_ge k l.length with h | h
  ·exact h
  ·rw [List.getElem?_eq_none h] at hx; cases hx
 have hrow := h.row
 obtain ⟨hB, hl, h2⟩ := h.row
 rcases h2 with ⟨e, hz⟩ | ⟨g', cap', cur, e, hb, hh, hn, hc, hs, ht⟩
 ·omega
 ·obtain ⟨rfl, -, -⟩ := Value.slice.inj e
  have hne : ∀ e ∈ (g, #[Value.slice A1 o.length c1, Value.slice (some ⟨g', 0, none⟩) n cp], 26) :: K, e.1 ≠ g' := fun e he e' => by
   have h1 := (h.hold.2.1 e he).1
   rw [e', hh] at h1
   have h2 : (39 : TypeId) = e.2.2 := by
    injection h1 with h1
    injection h1
   rcases List.mem_cons.1 he with rfl | he
   ·exact absurd (show (39 : Nat) = 26 from h2) (by decide)
   ·exact hK e he h2.symm
  have hq := h.hold.other hb hne (k * 3 + 1) (.slice A5 r.length c5)
  have hpp : (39 : Nat) ≠ 28 := by decide
  refine ⟨g', rfl, blk_frozen hh _, ⟨cur[k * 3 + 1]'(by rw [hs]; omega), by rw [blk_cell hh, Array.getElem?_eq_getElem]⟩, hq, ⟨hq.1, row_far_set h.out.2 (row_block h.out.2 hh hpp) _ _⟩, hrow.ring hx r A5 c5, fun y hy => ?_⟩
  rcases List.mem_or_eq_of_mem_set hy with hy | rfl
  ·exact row_far_set (h.rs y hy) (row_block (h.rs y hy) hh hpp) _ _
  ·exact row_far_set hr.2 (row_block hr.2 hh hpp) _ _
end
def lsR (r : List (Int × Int)) : List (Int × Int) := rotL r (leastI r r.length)
def lsP (x : Par) : Par := ⟨x.id, lsR x.ring, x.own⟩
end Go.Proofs.Ytfjfmieadedjoaa

namespace Go.Proofs.Ytfjfmieadedjoaa
open Go.RowKit

noncomputable def ptP (p : Int × Int) (x : Par) : Par := ⟨x.id, putC x.ring p, x.own⟩
theorem own_with {w W W' : World} {ps : List (Int × Int)} {A : Option Addr} {cap : Nat} {p : Int × Int} {v : Value} (hb : Below w.heap.size w W) (hr : Row w (.slice A ps.length cap) ps W) (h : (v = .slice A ps.length cap ∧ putC ps p = ps ∧ Below W.heap.size W W') ∨ Row W v (putC ps p) W') : Row w v (putC ps p) W' ∧ Below W.heap.size W W' := by
 rcases h with ⟨rfl, e, h⟩ | h
 ·rw [e]; exact ⟨hr.on h, h⟩
 ·exact ⟨h.base hb, h.1⟩
theorem Og.plan {w W : World} {A1 Ap : Option Addr} {o : List (Int × Int)} {c1 n cp g : Nat} {l : List PV} {K : List (Nat × Array Value × TypeId)} (h : Og w A1 o c1 Ap n l cp g K W) (hn : n = l.length) (ho : o.length ≤ 1000) (hl : ∀ x ∈ l, x.par.ring.length ≤ 1000) : PlanAt W o A1 c1 l Ap cp := by
 subst hn
 exact planAt_of h.out h.row h.rs (by omega) (fun x hx => by have := hl x hx; omega)
end Go.Proofs.Ytfjfmieadedjoaa

namespace Go.Proofs.Ytfjfmieadedjoaa
open Go.RowKit

end Go.Proofs.Ytfjfmieadedjoaa
