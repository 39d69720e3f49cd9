/- What layer plan's laws share: the program's Begin, the given answer, which plans are small. -/
import Derived.Test.YtjlnjjmomohpaaaGreatPgO
namespace Go.Proofs.YtjlnjjmomohpaaaGreat
open Go.RowKit

structure PlanAt (w : World) (o : List (Int × Int)) (Ao : Option Addr) (co : Nat) (l : List PV) (Ap : Option Addr) (cp : Nat) : Prop where
 prs : Prs w Ap l
 out : Pts w w.heap.size Ao o
 nil : NilOk Ao co
 room : o.length * 16 ≤ 140737488355328
 caps : o.length ≤ co ∧ ∀ x ∈ l, x.par.ring.length ≤ x.cap
theorem PlanAt.on {w w' : World} {o : List (Int × Int)} {Ao : Option Addr} {co : Nat} {l : List PV} {Ap : Option Addr} {cp : Nat} (h : PlanAt w o Ao co l Ap cp) (hb : Below w.heap.size w w') : PlanAt w' o Ao co l Ap cp :=
 ⟨h.prs.on hb, h.out.on hb, h.nil, h.room, h.caps⟩
theorem Pts.apart {W W' : World} {A : Option Addr} {ps : List (Int × Int)} {g : Nat} (h : Pts W W.heap.size A ps) (hfar : ∀ k, k ≠ g → W'.heap[k]? = W.heap[k]?) (hs : W.heap.size ≤ W'.heap.size) (hne : ∀ ad, A = some ad → ad.block ≠ g) : Pts W' W'.heap.size A ps := fun hp => by
 obtain ⟨ad, e, hb, hc⟩ := h hp
 have hn := hne ad e
 refine ⟨ad, e, by omega, fun k p hk => ?_⟩
 obtain ⟨c0, c1⟩ := hc k p hk
 exact ⟨(World.cell?_of_block (hfar _ (by rw [block_of_add]; exact hn))).trans c0, (World.cell?_of_block (hfar _ (by rw [block_of_add, block_of_add]; exact hn))).trans c1⟩
theorem fit_one {r : List (Int × Int)} (hs : Sound r) : Fit r [r] := by
 have he : edgs [r] = edg r := by unfold edgs; simp
 refine ⟨hs, fun q hq => by rw [List.mem_singleton.1 hq]; exact hs, by rw [he]; exact edg_nodup hs, fun e h => by rw [he]; exact h, fun e h => ?_, fun a ha b hb hab => ?_⟩
 ·rw [he] at *
  exact ⟨fun _ h2 => edg_way hs h h2, fun _ => h⟩
 ·rw [he] at ha hb
  obtain ⟨i, hi, rfl⟩ := mem_edg.1 ha
  obtain ⟨j, hj, rfl⟩ := mem_edg.1 hb
  have hij : i ≠ j := fun e => hab (by rw [e])
  obtain ⟨a1, a2, a3⟩ := hs.2.2 i j (by rw [Nat.mod_eq_of_lt hi, Nat.mod_eq_of_lt hj]; exact hij)
  by_cases hadj : adj r.length i j
  ·rw [a2 hadj]
   refine ⟨by decide, fun _ => ?_, fun h => absurd h (by decide)⟩
   have hnx : ∀ k m, k < r.length → m < r.length → (k + 1) % r.length = m % r.length → nx r (k + 1) = nx r m := fun k m _ _ h => by rw [← nx_mod r (k + 1), h, nx_mod]
   rcases hadj with h | h
   ·exact .inr (.inr (.inl (hnx i j hi hj h)))
   ·exact .inr (.inl (hnx j i hj hi h).symm)
  ·rw [a3 hadj]
   exact ⟨by decide, fun h => absurd h (by decide), fun h => absurd h (by decide)⟩
theorem one_checks {r : List (Int × Int)} {id : Int} {s : ByteArray} {A : Option Addr} {c : Nat} (hn : NormP r) (hi : idB id = true) (ho : OwnOk s) : CheckP r [⟨⟨id, r, s⟩, A, c⟩] := by
 have hF : Fit r (rings [(⟨⟨id, r, s⟩, A, c⟩ : PV)]) := fit_one (norm_sound hn)
 obtain ⟨t1, t2⟩ := hF.tries
 obtain ⟨h1, h2, h3⟩ := normP_small hn
 have hid : 0 < id := by unfold idB at hi; rw [Bool.and_eq_true, decide_eq_true_iff, decide_eq_true_iff] at hi; omega
 have hc1 : cornN r [(⟨⟨id, r, s⟩, A, c⟩ : PV)] 1 = r.length + r.length := rfl
 refine ⟨⟨fun k hk x hx => ?_, Nat.le_refl _, (show 1 ≤ 64 by decide), by show cornN r [_] 1 ≤ 1024; rw [hc1]; omega⟩, hn, fun x hx => by rw [List.mem_singleton.1 hx]; exact hn, ?_, fun i hi e he => ?_, fun i j hij hj a b ha hb => ?_, hF.out⟩
 ·obtain rfl : k = 0 := by simpa using hk
  obtain rfl : (⟨⟨id, r, s⟩, A, c⟩ : PV) = x := by simpa using hx
  exact ⟨hi, hid, ho, by show cornN r [_] 1 ≤ 1024; rw [hc1]; omega⟩
 ·show 0 + area r = area r
  omega
 ·obtain rfl : (edgs (rings [(⟨⟨id, r, s⟩, A, c⟩ : PV)]))[i] = e := by rw [List.getElem?_eq_getElem hi] at he; exact Option.some.inj he
  refine ⟨fun j hj hh => ?_, (t1 i hi).2⟩
  rw [List.getElem?_eq_getElem (by omega)] at hh
  exact (t1 i hi).1 j hj (Option.some.inj hh)
 ·obtain rfl : (edgs (rings [(⟨⟨id, r, s⟩, A, c⟩ : PV)]))[i] = a := by rw [List.getElem?_eq_getElem (by omega)] at ha; exact Option.some.inj ha
  obtain rfl : (edgs (rings [(⟨⟨id, r, s⟩, A, c⟩ : PV)]))[j] = b := by rw [List.getElem?_eq_getElem hj] at hb; exact Option.some.inj hb
  exact t2 i j hij hj
theorem gv_che0 : chE gvR = 0 := chE_zero.2 ⟨gv_ar, gv_sound⟩
theorem gv_nm : nmL gvR = gvR := by rw [nmL_eq gv_che0]; decide +kernel
theorem gv_norm : NormP gvR := ⟨gv_che0, by rw [← nmL_eq gv_che0, gv_nm]⟩
theorem gv_id : idB 1 = true := by decide
theorem hr_len {w W : World} {Ap : Option Addr} {l : List PV} {k : Nat} (h : ∀ W, Below w.heap.size w W → Prs W Ap l) (hB : Below w.heap.size w W) (hlt : k < l.length) : l[k].par.ring.length * 16 ≤ 140737488355328 := ((h W hB).2 l[k] (List.getElem_mem hlt)).2.2
end Go.Proofs.YtjlnjjmomohpaaaGreat

namespace Go.Proofs.YtjlnjjmomohpaaaGreat
open Go.RowKit

theorem rows_apart {W : World} {b1 b2 : Nat} {T1 T2 : TypeId} {s1 s2 n1 n2 : Nat} {v1 v2 : Value} {x1 x2 : List Value} (h1 : W.ownsRow b1 T1 s1 v1 n1 x1) (h2 : W.ownsRow b2 T2 s2 v2 n2 x2) (hne : T1 ≠ T2) : v1.ownBlock = none ∨ v1.ownBlock ≠ v2.ownBlock := by
 rcases h1.2 with ⟨rfl, _⟩ | ⟨g1, c1, cur1, rfl, _, hg1, _⟩
 ·exact .inl rfl
 ·refine .inr fun e => ?_
  rcases h2.2 with ⟨rfl, _⟩ | ⟨g2, c2, cur2, rfl, _, hg2, _⟩
  ·cases e
  ·obtain rfl : g1 = g2 := Option.some.inj e
   rw [hg1] at hg2
   cases hg2
   exact hne rfl
theorem row_far_set {W : World} {B e sz n g : Nat} {v : Value} {xs : List Value} (h : W.ownsRow B e sz v n xs) (hne : v.ownBlock ≠ some g) (i : Nat) (u : Value) : (W.setCell ⟨g, i, none⟩ u).ownsRow B e sz v n xs := by
 refine ⟨h.1, h.2.imp id ?_⟩
 rintro ⟨k, cap, cur, rfl, hb, hh, hrest⟩
 exact ⟨k, cap, cur, rfl, hb, (Below.heap_setCell _ _ _ k (fun e' => hne (by simp only at e'; rw [e']; rfl))).trans hh, hrest⟩
theorem row_block {W : World} {B e sz n g : Nat} {v : Value} {xs : List Value} {cs : Array Value} {t : TypeId} (h : W.ownsRow B e sz v n xs) (hg : W.heap[g]? = some (Obj.cells cs t (0, 0))) (ht : t ≠ e) : v.ownBlock ≠ some g := fun e' => by
 rcases h.2 with ⟨rfl, _⟩ | ⟨k, cap, cur, rfl, _, hh, _⟩
 ·cases e'
 ·obtain rfl : k = g := Option.some.inj e'
  rw [hh] at hg
  cases hg
  exact ht rfl
def OwnRs (w : World) (l : List PV) (W : World) : Prop := ∀ x ∈ l, W.ownsRow w.heap.size 56 2 (.slice x.A x.par.ring.length x.cap) x.par.ring.length (flatP x.par.ring)
section
variable {w W W' : World} {l : List PV}
theorem OwnRs.on (h : OwnRs w l W) (hb : Below W.heap.size W W') : OwnRs w l W' := fun x hx => row_on (h x hx) hb
theorem OwnRs.set {g : Nat} {cs : Array Value} {t : TypeId} (h : OwnRs w l W) (hg : W.heap[g]? = some (Obj.cells cs t (0, 0))) (ht : t ≠ 56) (i : Nat) (u : Value) : OwnRs w l (W.setCell ⟨g, i, none⟩ u) := fun x hx => row_far_set (h x hx) (row_block (h x hx) hg ht) i u
theorem OwnRs.grow {T : TypeId} {b s n : Nat} {v : Value} {xs : List Value} (h : OwnRs w l W) (hv : W.ownsRow b T s v n xs) (ht : 56 ≠ T) (hg : W.grownBy W' v.ownBlock) : OwnRs w l W' := fun x hx => (h x hx).kept hg (rows_apart (h x hx) hv ht)
theorem OwnRs.alloc (h : OwnRs w l W) (o : Obj) : OwnRs w l (W.alloc o) := h.on ((Below.refl _ W).alloc (Nat.le_refl _) _)
end
theorem RowI.full {α : Type} {T : TypeId} {enc : α → List Value} {n : Nat} {w0 W : World} {A : Option Addr} {m c : Nat} {l : List α} (h : RowI w0 T n enc (.slice A m c) l W) : Items W W.heap.size A enc l ∧ NilOk A c ∧ l.length ≤ c := by
 obtain ⟨A', c', e, hi, hn⟩ := h.items
 obtain ⟨rfl, -, rfl⟩ := Value.slice.inj e
 exact ⟨hi, hn, h.cap⟩
theorem Row.whole {w0 W : World} {A : Option Addr} {m c : Nat} {ps : List (Int × Int)} (h : Row w0 (.slice A m c) ps W) : Pts W W.heap.size A ps ∧ NilOk A c ∧ ps.length ≤ c := by
 obtain ⟨A', c', e, hp, hn, hc⟩ := h.full
 obtain ⟨rfl, -, rfl⟩ := Value.slice.inj e
 exact ⟨hp, hn, hc⟩
theorem Row.base {w w1 W : World} {v : Value} {ps : List (Int × Int)} (h : Row w1 v ps W) (hb : Below w.heap.size w w1) : Row w v ps W :=
 ⟨Below.trans hb (h.1.mono hb.size), h.2.1, h.2.2.imp id (fun ⟨g, cap, cur, e, hg, r⟩ => ⟨g, cap, cur, e, Nat.le_trans hb.size hg, r⟩)⟩

set_option maxRecDepth 100000 in
set_option maxHeartbeats 1000000 in
theorem Own_any (o : List (Int × Int)) (Ao : Option Addr) (co : Nat) (l : List PV) (Ap : Option Addr) (cp : Nat) (hl : l.length ≤ 1000000) (w : World) (h : PlanAt w o Ao co l Ap cp) :
  Calls Tryz.prog 12 #[.agg #[.slice Ao o.length co, .slice Ap l.length cp]] w fun e w' => Below w.heap.size w w' ∧ ∃ A1 c1 l' Ap1 cp1, e = .returned (.agg #[.slice A1 o.length c1, .slice Ap1 l.length cp1]) ∧ l'.map PV.par = l.map PV.par ∧ PlanAt w' o A1 c1 l' Ap1 cp1 := by
 have HPR := Lib.hid (fun W (hb : Below w.heap.size w W) => h.prs.on hb)
 have HPO := Lib.hid (fun W (hb : Below w.heap.size w W) => h.out.on hb)
 have HNI := Lib.hid h.nil
 have HRO := Lib.hid h.room
 have HQ := ((Hold.refl w).new #[.slice Ao o.length co, .slice Ap l.length cp] 26).new' #[.slice none 0 0, .slice none 0 0] 26 (n := w.heap.size + 1) (by simp)
 clear h
 go_enter Tryz.func12, Tryz.ntmps12
 go_upto_region 1 with (fail)
 generalize (World.alloc (World.alloc w _) _) = W1 at HQ ⊢
 generalize w.heap.size + 1 = g2 at HQ ⊢
 obtain ⟨g1, hg1⟩ : ∃ g, w.heap.size = g := ⟨_, rfl⟩
 have HG1 := Lib.hid hg1
 rw [hg1] at HQ ⊢
 clear hg1
 obtain ⟨c0, c1⟩ := HQ.pt (List.mem_cons_of_mem _ List.mem_cons_self)
 have HQX := Lib.hid HQ
 have hz1 := HQX.out.lt (List.mem_cons_of_mem _ List.mem_cons_self)
 have HMD := Lib.hid (Row.made W1 56 rfl)
 clear HQ
 go_upto_region 2 with (at_builtin; go_must (refine append_pts _ Tryz.underlying23 HMD.out o Ao co (HPO.out _ (Below.trans HQX.out.1 (HMD.out.1.mono HQX.out.1.size))) HNI.out (by have := HRO.out; simpa using this) rfl _ _ rfl rfl rfl ?_; rintro v1 W2 HR1; have hq2 := HQX.out.on HR1.1; have hr1 := HR1.base HQX.out.1; rw [List.nil_append] at hr1; obtain ⟨A1, cA, rfl, -, hn1, hc1⟩ := hr1.full; have HN1 := Lib.hid hn1; have HC1 := Lib.hid hc1; have HR2 := Lib.hid hr1; have HQ2 := Lib.hid hq2; clear HR1 hr1 hn1 hc1 hq2))
 clear c0 c1 hz1
 have HQ3 := HQ2.out.new #[.slice A1 o.length cA, .slice none 0 0] 26
 have HR3 := HR2.out.alloc (Obj.cells #[.slice A1 o.length cA, .slice none 0 0] 26 (0, 0))
 generalize (World.alloc _ _) = W3 at HQ3 HR3 ⊢
 generalize W2.heap.size = g3 at HQ3 ⊢
 clear HQX HMD
 obtain ⟨c0, c1⟩ := HQ3.pt (List.mem_cons_of_mem _ (List.mem_cons_of_mem _ List.mem_cons_self))
 have HQY := Lib.hid HQ3
 have HRY := Lib.hid HR3
 clear HQ3 HR3 HR2 HQ2
 go_wp2_with fail
 clear c0 c1
 go_loopg [4] l.length (fun g i wr => ∃ (k : Nat) (v : Value) (l' : List PV), k ≤ l.length ∧ g = l.length - k ∧ i = .int .i64 k ∧ l'.map PV.par = (l.take k).map PV.par ∧ Row w (.slice A1 o.length cA) o wr ∧ RowI w 58 3 encV v l' wr ∧ OwnRs w l' wr ∧ Hold w [(g3, #[.slice A1 o.length cA, v], 26), (g2, #[.slice none 0 0, .slice none 0 0], 26), (g1, #[.slice Ao o.length co, .slice Ap l.length cp], 26)] wr)
 case atStart => exact ⟨0, .slice none 0 0, [], Nat.zero_le _, rfl, rfl, rfl, HRY.out, RowI.nil HRY.out.1, (fun x hx => (by cases hx)), HQY.out⟩
 case round =>
  obtain ⟨k, v, l', hk, hgk, rfl, hmap, HO, HV, HOR, HB⟩ := hrel
  have HGK := Lib.hid hgk
  have HMAP := Lib.hid hmap
  clear hgk hmap
  obtain ⟨c0, c1'⟩ := HB.pt (List.mem_cons_of_mem _ (List.mem_cons_of_mem _ List.mem_cons_self))
  by_cases hlt : k < l.length
  ·have hw := HPR.out _ HB.1
   obtain ⟨ad, rfl, -, d0, d1, d2⟩ := hw.at hlt
   obtain ⟨hp, hnil, hsz⟩ := hw.2 l[k] (List.getElem_mem hlt)
   have b0 : (0 : Int) ≤ (k : Int) := by omega
   have b1 : (k : Int) < (l.length : Int) := by omega
   have HMT : Hid ((l.take (k + 1)).map PV.par = (l.take k).map PV.par ++ [l[k].par]) := by
    unfold Hid
    rw [List.take_succ_eq_append_getElem hlt, List.map_append]; rfl
   have HLL : Hid (l'.length ≤ 1000000) := by
    have := congrArg List.length HMAP.out
    rw [List.length_map, List.length_map, List.length_take] at this
    unfold Hid; omega
   have HP := Lib.hid hp
   have HNL := Lib.hid hnil
   have HSZ := Lib.hid hsz
   clear hw hp hnil hsz
   generalize l[k].par = x at *
   generalize l[k].A = Ak at *
   generalize l[k].cap = ck at *
   go_upto_region 6 with (fail)
   have hb1 := (Below.refl wr.heap.size wr).alloc (Nat.le_refl _) (.cells #[.int .i64 x.id, .slice Ak x.ring.length ck, .string x.own] 58 (0, 0))
   have HQ := HB.new #[.int .i64 x.id, .slice Ak x.ring.length ck, .string x.own] 58
   have HP1 := HP.out.on hb1
   have HO1 := HO.on hb1
   have HV1 := HV.on hb1
   have HOR1 := HOR.on hb1
   have HNV := Lib.hid (HV.row_ne (Nat.le_refl _))
   clear HB HP HO HV HOR hb1 d0 d1 d2 c0 c1'
   generalize (World.alloc _ _) = W5 at HQ HP1 HO1 HV1 HOR1 ⊢
   generalize wr.heap.size = g5 at HQ HNV ⊢
   have k1 := HQ.cell (.head _) 1
   simp only [List.getElem?_toArray, List.getElem?_cons_zero, List.getElem?_cons_succ] at k1
   have hz5 := HQ.lt (.head _)
   have HMD := Lib.hid (Row.made W5 56 rfl)
   have HQ5 := Lib.hid HQ
   have HP5 := Lib.hid HP1
   have HO5 := Lib.hid HO1
   have HV5 := Lib.hid HV1
   have HOR5 := Lib.hid HOR1
   clear HQ HP1 HO1 HV1 HOR1
   go_upto_region 7 with (at_builtin; go_must (refine append_pts _ Tryz.underlying23 HMD.out x.ring Ak ck (HP5.out.on HMD.out.1) HNL.out (by have := HSZ.out; simpa using this) rfl _ _ rfl rfl rfl ?_; rintro v6 W6 HR6; rw [List.nil_append] at HR6; have hq6 := HQ5.out.on HR6.1; have hr6 := HR6.base HQ5.out.1; obtain ⟨A6, c6, rfl, -, hn6, hc6⟩ := hr6.full; have k6 := hq6.frozen (.head _) 1; have HN6 := Lib.hid hn6; have HC6 := Lib.hid hc6; have HR7 := Lib.hid hr6; have HQ6 := Lib.hid hq6; have HO6 := Lib.hid (HO5.out.on HR6.1); have HV6 := Lib.hid (HV5.out.on HR6.1); have HOR6 := Lib.hid (HOR5.out.on HR6.1); have k7 := hq6.cell (.head _) 1; clear HR6 hr6 hn6 hc6 hq6))
   clear k1 hz5
   have HQ7 : Hold w [(g5, #[.int .i64 x.id, .slice A6 x.ring.length c6, .string x.own], 58), (g3, #[.slice A1 o.length cA, v], 26), (g2, #[.slice none 0 0, .slice none 0 0], 26), (g1, #[.slice Ao o.length co, .slice (some ad) l.length cp], 26)] (W6.setCell ⟨g5, 1, none⟩ (.slice A6 x.ring.length c6)) := HQ6.out.set 1 (.slice A6 x.ring.length c6)
   have hh5 := (HQ6.out.2.1 _ (.head _)).1
   have HV7 : RowI w 58 3 encV v l' (W6.setCell ⟨g5, 1, none⟩ (.slice A6 x.ring.length c6)) := ⟨HQ7.1, row_far_set HV6.out.2 HNV.out 1 _⟩
   have HO7 : Row w (.slice A1 o.length cA) o (W6.setCell ⟨g5, 1, none⟩ (.slice A6 x.ring.length c6)) := ⟨HQ7.1, row_far_set HO6.out.2 (row_block HO6.out.2 hh5 (show (58 : Nat) ≠ 56 by decide)) 1 _⟩
   have HOR7 := HOR6.out.set hh5 (show (58 : Nat) ≠ 56 by decide) 1 (.slice A6 x.ring.length c6)
   have HNR7 := row_far_set HR7.out.2 (row_block HR7.out.2 hh5 (show (58 : Nat) ≠ 56 by decide)) 1 (.slice A6 x.ring.length c6)
   have HOX : Hid (OwnRs w (l' ++ [⟨x, A6, c6⟩]) (W6.setCell ⟨g5, 1, none⟩ (.slice A6 x.ring.length c6))) := fun y hy => by
    rcases List.mem_append.1 hy with hy | hy
    ·exact HOR7 y hy
    ·obtain rfl := List.mem_singleton.1 hy
     exact HNR7
   clear hh5 HOR7 HNR7 HV6 HO6 HOR6 HR7 HQ6 HQ5 HP5 HO5 HV5 HOR5 HMD k6 k7
   generalize (World.setCell W6 _ _) = W7 at HQ7 HV7 HO7 HOX ⊢
   have k0 := HQ7.cell (.head _) 0
   have k1 := HQ7.cell (.head _) 1
   have k2 := HQ7.cell (.head _) 2
   have m1 := HQ7.cell (List.mem_cons_of_mem _ List.mem_cons_self) 1
   simp only [List.getElem?_toArray, List.getElem?_cons_zero, List.getElem?_cons_succ] at k0 k1 k2 m1
   have HNG3 := Lib.hid (HV7.apart (HQ7.2.1 _ (List.mem_cons_of_mem _ List.mem_cons_self)).1 (show (26 : Nat) ≠ 58 by decide))
   have HNG2 := Lib.hid (HV7.apart (HQ7.2.1 _ (List.mem_cons_of_mem _ (List.mem_cons_of_mem _ List.mem_cons_self))).1 (show (26 : Nat) ≠ 58 by decide))
   have HNG1 := Lib.hid (HV7.apart (HQ7.2.1 _ (List.mem_cons_of_mem _ (List.mem_cons_of_mem _ (List.mem_cons_of_mem _ List.mem_cons_self)))).1 (show (26 : Nat) ≠ 58 by decide))
   have HV8 := Lib.hid HV7
   have HQ8 := Lib.hid HQ7
   have HO8 := Lib.hid HO7
   clear HV7 HQ7 HO7
   go_wp2_with (at_builtin; go_must (refine append_itemG kindV Tryz.underlying24 HV8.out ⟨x, A6, c6⟩ 58 #[.int .i64 x.id, .slice A6 x.ring.length c6, .string x.own] rfl (by have := HLL.out; unfold maxLen; omega) (by have := HLL.out; omega) rfl _ _ rfl rfl 1 rfl ?_; rintro v9 w9 HR9 hg9; have hq9 := Hold.grow (HQ8.out.alloc (Obj.cells #[.int .i64 x.id, .slice A6 x.ring.length c6, .string x.own] 58 (0, 0))) HR9.1 hg9 (fun e he => by rcases List.mem_cons.1 he with rfl | he; exact HNV.out; rcases List.mem_cons.1 he with rfl | he; exact HNG3.out; rcases List.mem_cons.1 he with rfl | he; exact HNG2.out; rcases List.mem_cons.1 he with rfl | he; exact HNG1.out; cases he); have HX9 := Lib.hid (OwnRs.grow (OwnRs.alloc HOX.out (Obj.cells #[.int .i64 x.id, .slice A6 x.ring.length c6, .string x.own] 58 (0, 0))) (HV8.out.alloc (Obj.cells #[.int .i64 x.id, .slice A6 x.ring.length c6, .string x.own] 58 (0, 0))).2 (show (56 : Nat) ≠ 58 by decide) hg9); have HO9 := Lib.hid (((HO8.out.alloc (Obj.cells #[.int .i64 x.id, .slice A6 x.ring.length c6, .string x.own] 58 (0, 0))).2).kept hg9 (rows_apart (HO8.out.alloc (Obj.cells #[.int .i64 x.id, .slice A6 x.ring.length c6, .string x.own] 58 (0, 0))).2 (HV8.out.alloc (Obj.cells #[.int .i64 x.id, .slice A6 x.ring.length c6, .string x.own] 58 (0, 0))).2 (show (56 : Nat) ≠ 58 by decide))); obtain ⟨A9, c9, hv9, -, -⟩ := HR9.items; have hl9 : (l' ++ [(⟨x, A6, c6⟩ : PV)]).length = l'.length + 1 := (by simp); rw [hl9] at hv9; have HRR := Lib.hid HR9; have z1 := hq9.frozen (List.mem_cons_of_mem _ List.mem_cons_self) 1; have z2 := hq9.cell (List.mem_cons_of_mem _ List.mem_cons_self) 1; have HQ9 := Lib.hid hq9; subst hv9; clear HR9 hg9 hq9 hl9))
   have HQ10 : Hold w [(g3, #[.slice A1 o.length cA, .slice A9 (l'.length + 1) c9], 26), (g2, #[.slice none 0 0, .slice none 0 0], 26), (g1, #[.slice Ao o.length co, .slice (some ad) l.length cp], 26)] _ := HQ9.out.tail.set 1 (.slice A9 (l'.length + 1) c9)
   have hh3 := (HQ9.out.2.1 _ (List.mem_cons_of_mem _ List.mem_cons_self)).1
   have hv10 : RowI w 58 3 encV (.slice A9 (l'.length + 1) c9) (l' ++ [(⟨x, A6, c6⟩ : PV)]) (w9.setCell ⟨g3, 1, none⟩ (.slice A9 (l'.length + 1) c9)) := ⟨HQ10.1, row_far_set HRR.out.2 (row_block HRR.out.2 hh3 (show (26 : Nat) ≠ 58 by decide)) 1 _⟩
   have ho10 : Row w (.slice A1 o.length cA) o (w9.setCell ⟨g3, 1, none⟩ (.slice A9 (l'.length + 1) c9)) := ⟨HQ10.1, row_far_set HO9.out (row_block HO9.out hh3 (show (26 : Nat) ≠ 56 by decide)) 1 _⟩
   have hx10 := HX9.out.set hh3 (show (26 : Nat) ≠ 56 by decide) 1 (.slice A9 (l'.length + 1) c9)
   go_roundg (l.length - (k + 1))
   case measure => have := HGK.out; omega
   case rel => exact ⟨k + 1, _, l' ++ [(⟨x, A6, c6⟩ : PV)], by omega, rfl, by go_num, by rw [HMT.out, List.map_append, HMAP.out]; rfl, ho10, hv10, hx10, HQ10⟩
  ·obtain rfl : k = l.length := by omega
   have HMF : Hid (l'.map PV.par = l.map PV.par) := by have := HMAP.out; rwa [List.take_length] at this
   obtain ⟨A9, c9, hv9, -, -⟩ := HV.items
   have hlen : l'.length = l.length := by have := congrArg List.length HMF.out; rwa [List.length_map, List.length_map] at this
   rw [hlen] at hv9
   subst hv9
   obtain ⟨m0, m1⟩ := HB.pt (.head _)
   obtain ⟨y0, y1⟩ := HB.pt (List.mem_cons_of_mem _ List.mem_cons_self)
   obtain ⟨z0, z1⟩ := HB.fz (List.mem_cons_of_mem _ List.mem_cons_self)
   have HBX := Lib.hid HB
   have HVX := Lib.hid HV
   have HOX := Lib.hid HO
   have HRX := Lib.hid HOR
   clear HB HV HO HOR hlen
   go_wp2
   have HE := HBX.out.swap2 (.slice A1 o.length cA) (.slice A9 l.length c9)
   have hh2 := (HBX.out.2.1 _ (List.mem_cons_of_mem _ List.mem_cons_self)).1
   have hh2' := (((Hold.swap HBX.out 0 (.slice A1 o.length cA)).2.1 _ (List.mem_cons_of_mem _ List.mem_cons_self))).1
   have hv : RowI w 58 3 encV (.slice A9 l.length c9) l' ((wr.setCell ⟨g2, 0, none⟩ (.slice A1 o.length cA)).setCell ⟨g2, 1, none⟩ (.slice A9 l.length c9)) := ⟨HE.1, row_far_set (row_far_set HVX.out.2 (row_block HVX.out.2 hh2 (show (26 : Nat) ≠ 58 by decide)) 0 _) (row_block HVX.out.2 hh2 (show (26 : Nat) ≠ 58 by decide)) 1 _⟩
   have ho : Row w (.slice A1 o.length cA) o ((wr.setCell ⟨g2, 0, none⟩ (.slice A1 o.length cA)).setCell ⟨g2, 1, none⟩ (.slice A9 l.length c9)) := ⟨HE.1, row_far_set (row_far_set HOX.out.2 (row_block HOX.out.2 hh2 (show (26 : Nat) ≠ 56 by decide)) 0 _) (row_block HOX.out.2 hh2 (show (26 : Nat) ≠ 56 by decide)) 1 _⟩
   have hrs := (HRX.out.set hh2 (show (26 : Nat) ≠ 56 by decide) 0 (.slice A1 o.length cA)).set hh2' (show (26 : Nat) ≠ 56 by decide) 1 (.slice A9 l.length c9)
   obtain ⟨n0, n1⟩ := HE.pt (List.mem_cons_of_mem _ List.mem_cons_self)
   obtain ⟨i1, i2, i3⟩ := hv.full
   obtain ⟨j1, j2, j3⟩ := ho.whole
   refine bodyPost_ret (v := .agg #[.slice A1 o.length cA, .slice A9 l.length c9]) ?_ rfl ⟨HE.1, A1, cA, l', A9, c9, rfl, HMF.out, ⟨i1, fun x hx => ?_⟩, j1, j2, HRO.out, j3, fun x hx => ?_⟩
   ·simp [results, Tryz.results12, go_sem, n0, n1]
   ·obtain ⟨r1, r2, r3⟩ := (show Row w (.slice x.A x.par.ring.length x.cap) x.par.ring _ from ⟨HE.1, hrs x hx⟩).whole
    refine ⟨r1, r2, ?_⟩
    have hm : x.par ∈ l.map PV.par := by rw [← HMF.out]; exact List.mem_map.2 ⟨x, hx, rfl⟩
    obtain ⟨y, hy, e⟩ := List.mem_map.1 hm
    rw [← e]
    exact ((HPR.out w (Below.refl _ _)).2 y hy).2.2
   ·exact ((show Row w (.slice x.A x.par.ring.length x.cap) x.par.ring _ from ⟨HE.1, hrs x hx⟩).whole).2.2
end Go.Proofs.YtjlnjjmomohpaaaGreat
