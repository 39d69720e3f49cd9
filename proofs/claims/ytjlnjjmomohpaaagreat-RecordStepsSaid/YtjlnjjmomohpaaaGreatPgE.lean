/- The program's sidesOf: which parcel lies to the left of each edge. -/
import Derived.Test.YtjlnjjmomohpaaaGreatPgB
import Derived.Test.YtjlnjjmomohpaaaGreatRingP
import Derived.Maps.AppendAt
namespace Go.Proofs.YtjlnjjmomohpaaaGreat
open Go.RowKit

def ownL (l : List PV) : List (((Int × Int) × (Int × Int)) × Int) := l.flatMap fun x => (edg x.par.ring).map fun e => (e, x.par.id)
theorem ownL_keys (l : List PV) : (ownL l).map Prod.fst = edgs (rings l) := by
 unfold ownL edgs rings
 rw [List.map_flatMap, List.flatMap_map]
 congr 1
 funext x
 rw [List.map_map]
 exact List.map_id _
theorem ownL_take {l : List PV} {k : Nat} (hk : k < l.length) : ownL (l.take (k + 1)) = ownL (l.take k) ++ (edg l[k].par.ring).map fun e => (e, l[k].par.id) := by
 rw [List.take_succ_eq_append_getElem hk]
 unfold ownL
 rw [List.flatMap_append, List.flatMap_cons, List.flatMap_nil, List.append_nil]
theorem edgs_prefix {l : List PV} {k : Nat} (hk : k < l.length) (j : Nat) : (edgs (rings (l.take k)) ++ (edg l[k].par.ring).take j).Sublist (edgs (rings l)) := by
 have h : edgs (rings l) = edgs (rings (l.take (k + 1))) ++ edgs (rings (l.drop (k + 1))) := by
  conv => lhs; rw [← List.take_append_drop (k + 1) l]
  unfold rings edgs
  rw [List.map_append, List.flatMap_append]
 rw [h, edgs_take hk]
 exact (List.Sublist.append (List.Sublist.refl _) (List.take_sublist _ _)).trans (List.sublist_append_left _ _)
theorem edg_gd {r : List (Int × Int)} (h : ∀ p ∈ r, Gd p) {e : (Int × Int) × (Int × Int)} (he : e ∈ edg r) : Gd e.1 ∧ Gd e.2 := by
 unfold edg at he
 obtain ⟨k, hk, rfl⟩ := List.mem_map.1 he
 have hl : 0 < r.length := by have := List.mem_range.1 hk; omega
 exact ⟨nx_gd (gdL_iff.2 h) hl k, nx_gd (gdL_iff.2 h) hl (k + 1)⟩
theorem Items.but {α : Type} {w w' : World} {A : Option Addr} {enc : α → List Value} {l : List α} {row : Option Nat} (h : Items w w.heap.size A enc l) (hg : w.grownBy w' row) (hne : ∀ ad, A = some ad → row ≠ some ad.block) : Items w' w.heap.size A enc l := fun hl => by
 obtain ⟨ad, e, hb, hc⟩ := h hl
 refine ⟨ad, e, hb, fun j u hu => ?_⟩
 rw [← hc j u hu]
 exact cell_but hg (by rw [block_of_add]; exact hb) (by rw [block_of_add]; exact hne ad e)

set_option maxRecDepth 100000 in
set_option maxHeartbeats 4000000 in
theorem sides_any (l : List PV) (Ap : Option Addr) (cp : Nat) (hn : (edgs (rings l)).length ≤ 1000000) (hl : l.length ≤ 1000000) (hgd : ∀ x ∈ l, ∀ p ∈ x.par.ring, Gd p) (w : World) (hr : Prs w Ap l) :
  Calls Tryz.prog 96 #[.slice Ap l.length cp] w fun e w' => Below w.heap.size w w' ∧ ((e = .returned (.tuple #[.map none, .bool false]) ∧ ¬ (edgs (rings l)).Nodup) ∨
   ∃ b, e = .returned (.tuple #[.map (some b), .bool true]) ∧ w.heap.size ≤ b ∧ (edgs (rings l)).Nodup ∧ MapIs w' b gv iv OkE (ownL l)) := by
 have HR := Lib.hid (fun K W (h : Hold w K W) => hr.on h.1)
 have HN := Lib.hid hn
 have HG := Lib.hid hgd
 have HQ := (Hold.refl w).alloc (.map #[] 0)
 have HM0 : MapIs (w.alloc (.map #[] 0)) w.heap.size gv iv OkE (ownL (l.take 0)) := MapIs.made w
 have hmm := @run_makeMap Tryz.prog
 clear hr hn hgd
 go_enter Tryz.func96, Tryz.ntmps96
 go_upto_region 2 with (fail)
 generalize (World.alloc _ _) = W1 at HQ HM0 ⊢
 obtain ⟨b, hb⟩ : ∃ b, w.heap.size = b := ⟨_, rfl⟩
 have HBB : Hid (w.heap.size = b) := hb
 rw [hb] at HM0 ⊢
 clear hb hmm
 go_wp2_with fail
 go_loopg [2, 13] l.length (fun g m i wr => ∃ k : Nat, k ≤ l.length ∧ g = l.length - k ∧ m = .map (some b) ∧ i = .int .i64 k ∧ MapIs wr b gv iv OkE (ownL (l.take k)) ∧ Hold w [] wr)
 case atStart => exact ⟨0, Nat.zero_le _, rfl, rfl, rfl, HM0, HQ⟩
 case round =>
  clear HQ HM0
  obtain ⟨k, hk, hgk, rfl, rfl, HM, HB⟩ := hrel
  have HGK := Lib.hid hgk
  clear hgk
  by_cases hlt : k < l.length
  ·have hw := HR.out _ _ HB
   obtain ⟨ad, rfl, hadb, d0, d1, d2⟩ := hw.at hlt
   obtain ⟨hp, hnil, hsz⟩ := hw.2 l[k] (List.getElem_mem hlt)
   have hle := edg_le_edgs hlt
   have hN := HN.out
   have HKT := Lib.hid (ownL_take hlt)
   have HKS := Lib.hid (ownL_keys (l.take k))
   have HPF := Lib.hid (fun j => edgs_prefix hlt j)
   have HGE := Lib.hid (fun e he => edg_gd (e := e) (HG.out _ (List.getElem_mem hlt)) he)
   have HLE : Hid (l[k].par.ring.length ≤ 1000000) := by unfold Hid; rw [← edg_len]; omega
   have HEL := Lib.hid (edg_len l[k].par.ring)
   have HP := Lib.hid hp
   have b0 : (0 : Int) ≤ (k : Int) := by omega
   have b1 : (k : Int) < (l.length : Int) := by omega
   clear hw hp hnil hsz hle hN
   generalize edgs (rings (l.take k)) = pre at *
   generalize ownL (l.take k) = om at *
   generalize l[k].par = x at *
   generalize l[k].A = Ak at *
   generalize l[k].cap = ck at *
   go_upto_region 5 with (fail)
   have HQ := HB.new #[.int .i64 x.id, .slice Ak x.ring.length ck, .string x.own] 58
   have HM1 := HM.alloc (.cells #[.int .i64 x.id, .slice Ak x.ring.length ck, .string x.own] 58 (0, 0))
   have HP1 := HP.out.on ((Below.refl _ wr).alloc (Nat.le_refl _) (.cells #[.int .i64 x.id, .slice Ak x.ring.length ck, .string x.own] 58 (0, 0)))
   have HMB : Hid (b < wr.heap.size) := HM.lt
   clear HM HB HP d0 d1 d2 hadb
   generalize (World.alloc _ _) = W2 at HQ HM1 HP1 ⊢
   generalize wr.heap.size = gx at HQ HMB ⊢
   obtain ⟨c0, c1, c2⟩ : W2.cell? ⟨gx, 0, none⟩ = some (.int .i64 x.id) ∧ W2.cell? ⟨gx, 1, none⟩ = some (.slice Ak x.ring.length ck) ∧ W2.cell? ⟨gx, 2, none⟩ = some (.string x.own) := ⟨HQ.cell (.head _) 0, HQ.cell (.head _) 1, HQ.cell (.head _) 2⟩
   have HE := Lib.hid (edges_any x.ring Ak ck HLE.out W2 HP1)
   clear HP1
   go_wp2_with fail
   go_at_call 130
   refine HE.out.mono ?_
   rintro e w1 ⟨v, rfl, HV1⟩
   obtain ⟨A1, c1', hv1, HI, HNO⟩ := HV1.items
   have HM3 := HM1.on HV1.1 (HM1.lt)
   have HQ3 := HQ.on HV1.1
   have hne1 : ∀ ad, A1 = some ad → some b ≠ some ad.block := fun ad' e h => by
    have h1 := HV1.2.lt ad'.block (by rw [hv1, e]; rfl)
    have h2 := HM1.lt
    have := Option.some.inj h
    omega
   have HNE := Lib.hid hne1
   subst hv1
   clear HV1 HE HM1 HQ c0 c1 c2 HNO hne1
   have HI0 := Lib.hid HI
   clear HI
   have HMS := Lib.hid HM3
   have HQS := Lib.hid HQ3
   generalize hes : edg x.ring = es at *
   have HESL : Hid (es.length ≤ 1000000) := by unfold Hid; rw [HEL.out]; exact HLE.out
   clear hes
   go_wp2_with fail
   clear HM3 HQ3
   go_loopg [2, 21] es.length (fun g m i wr2 => ∃ j : Nat, j ≤ es.length ∧ g = es.length - j ∧ m = .map (some b) ∧ i = .int .i64 j ∧ MapIs wr2 b gv iv OkE (om ++ (es.take j).map fun e => (e, x.id)) ∧ w1.grownBy wr2 (some b))
   case atStart => exact ⟨0, Nat.zero_le _, rfl, rfl, rfl, by rw [List.take_zero, List.map_nil, List.append_nil]; exact HMS.out, World.grownBy.refl _ _⟩
   case round =>
    obtain ⟨j, hj, hgj, rfl, rfl, HM, hgr⟩ := hrel
    have HGJ := Lib.hid hgj
    clear hgj
    have HGR := Lib.hid hgr
    have hgxb : some b ≠ some gx := fun e => by have := HMB.out; have := Option.some.inj e; omega
    have HGX := Lib.hid hgxb
    by_cases hjt : j < es.length
    ·obtain ⟨ad, rfl, hadb, hc0, hc⟩ := Items.at kindG.len (HI0.out.but hgr HNE.out) hjt
     have d0 := hc0 _ (by decide) rfl
     have d1 := hc 1 _ (by decide) (by decide) rfl
     have d2 := hc 2 _ (by decide) (by decide) rfl
     have d3 := hc 3 _ (by decide) (by decide) rfl
     have b2 : (0 : Int) ≤ (j : Int) := by omega
     have b3 : (j : Int) < (es.length : Int) := by omega
     have b4 : (es.length : Int) ≤ 1000000 := by have := HESL.out; omega
     have hgx : wr.heap[gx]? = some (.cells #[.int .i64 x.id, .slice Ak x.ring.length ck, .string x.own] 58 (0, 0)) := (heap_but hgr (HQS.out.lt (.head _)) hgxb).trans (HQS.out.2.1 _ (.head _)).1
     have HOK : Hid (OkE es[j]) := okE_of (HGE.out _ (List.getElem_mem hjt)).1 (HGE.out _ (List.getElem_mem hjt)).2
     have HTK : Hid (es.take (j + 1) = es.take j ++ [es[j]]) := List.take_succ_eq_append_getElem hjt
     have hkeys : (om ++ (es.take j).map fun e => (e, x.id)).map Prod.fst = pre ++ es.take j := by
      rw [List.map_append, HKS.out, List.map_map]
      congr 1
      exact List.map_id _
     have HPJ : Hid ((pre ++ (es.take j ++ [es[j]])).Sublist (edgs (rings l))) := by have := HPF.out (j + 1); rwa [HTK.out] at this
     have HKY := Lib.hid hkeys
     clear hc0 hc hkeys hgxb
     generalize es[j] = y at *
     go_upto_region 8 with (fail)
     have HQ5 := Lib.hid ((Hold.refl wr).new #[.int .i64 y.1.1, .int .i64 y.1.2, .int .i64 y.2.1, .int .i64 y.2.2] 76)
     have HM5 := HM.alloc (.cells #[.int .i64 y.1.1, .int .i64 y.1.2, .int .i64 y.2.1, .int .i64 y.2.2] 76 (0, 0))
     have hgx5 := blk_alloc hgx (.cells #[.int .i64 y.1.1, .int .i64 y.1.2, .int .i64 y.2.1, .int .i64 y.2.2] 76 (0, 0))
     have hg5 := hgr.trans (World.grownBy_alloc wr (.cells #[.int .i64 y.1.1, .int .i64 y.1.2, .int .i64 y.2.1, .int .i64 y.2.2] 76 (0, 0)) (some b))
     clear d0 d1 d2 d3 HM hgx hgr HGR hadb
     generalize (World.alloc _ _) = W5 at HQ5 HM5 hgx5 hg5 ⊢
     generalize wr.heap.size = ge at HQ5 ⊢
     obtain ⟨c0, c1, c2, c3⟩ := HQ5.out.q4 (.head _)
     obtain ⟨k0, k1, k2⟩ : W5.cell? ⟨gx, 0, none⟩ = some (.int .i64 x.id) ∧ W5.cell? ⟨gx, 1, none⟩ = some (.slice Ak x.ring.length ck) ∧ W5.cell? ⟨gx, 2, none⟩ = some (.string x.own) := ⟨blk_cell hgx5 0, blk_cell hgx5 1, blk_cell hgx5 2⟩
     have HG5 := Lib.hid hg5
     have HM6 := Lib.hid HM5
     clear HM5 hg5 hgx5
     by_cases hm : y ∈ pre ++ es.take j
     ·have HDU : Hid (¬ (edgs (rings l)).Nodup) := fun hnd => by
       have h := hnd.sublist HPJ.out
       rw [← List.append_assoc, List.nodup_append] at h
       exact h.2.2 y hm y (by simp) rfl
      have HBW : Hid (Below w.heap.size w W5) := HQS.out.1.grown HG5.out (HQS.out.1.size) (fun k e => by have := HBB.out; have := Option.some.inj e; omega)
      have HMK : Hid (y ∈ (om ++ (es.take j).map fun e => (e, x.id)).map Prod.fst) := by unfold Hid; rw [HKY.out]; exact hm
      clear hm
      go_wp2_with (at_lookup; refine wp_look_yes (z := 0) rfl _ _ 147 rfl 3 keyE Tryz.underlying147 (zeroI _) b rfl HM6.out HOK.out HMK.out rfl ?_; intro y9 _)
      refine bodyPost_ret (v := .tuple #[.map none, .bool false]) ?_ rfl ⟨HBW.out, .inl ⟨rfl, HDU.out⟩⟩
      simp [results, Tryz.results96, go_sem]
     ·have HMK : Hid (y ∉ (om ++ (es.take j).map fun e => (e, x.id)).map Prod.fst) := by unfold Hid; rw [HKY.out]; exact hm
      clear hm
      go_wp2_with (first
       |(at_lookup; refine wp_look_no (z := 0) rfl _ _ 147 rfl 3 keyE Tryz.underlying147 (zeroI _) b rfl HM6.out HOK.out HMK.out rfl ?_)
       |(at_mapUpdate; refine wp_store (y := x.id) rfl _ _ _ 147 rfl 3 keyE Tryz.underlying147 b rfl HM6.out HOK.out HMK.out rfl rfl ?_; intro W9 hm9 hg9 hs9; have HM9 := Lib.hid hm9; have HG9 := Lib.hid (HG5.out.trans hg9); clear hm9 hg9 hs9))
      go_roundg (es.length - (j + 1))
      case measure => have := HGJ.out; omega
      case rel => exact ⟨j + 1, by omega, rfl, rfl, by go_num, by rw [HTK.out, List.map_append, ← List.append_assoc]; exact HM9.out, HG9.out⟩
    ·obtain rfl : j = es.length := by omega
     rw [List.take_length] at HM
     have HBW : Hid (Below w.heap.size w wr) := HQS.out.1.grown HGR.out (HQS.out.1.size) (fun k e => by have := HBB.out; have := Option.some.inj e; omega)
     have HM9 := Lib.hid HM
     clear HM hgr hgxb
     go_wp2_with fail
     go_roundg (l.length - (k + 1))
     case measure => have := HGK.out; omega
     case rel => exact ⟨k + 1, by omega, rfl, rfl, by go_num, by rw [HKT.out]; exact HM9.out, ⟨HBW.out, fun _ h => (by cases h), List.Pairwise.nil⟩⟩
  ·obtain rfl : k = l.length := by omega
   rw [List.take_length] at HM
   have HND := Lib.hid HM.nodup
   have HM9 := Lib.hid HM
   have HB9 := Lib.hid HB.1
   clear HM HB
   go_wp2
   refine bodyPost_ret (v := .tuple #[.map (some b), .bool true]) ?_ rfl ⟨HB9.out, .inr ⟨b, rfl, by have := HBB.out; omega, by rw [← ownL_keys]; exact HND.out, HM9.out⟩⟩
   simp [results, Tryz.results96, go_sem]
end Go.Proofs.YtjlnjjmomohpaaaGreat

namespace Go.Proofs.YtjlnjjmomohpaaaGreat
open Go.RowKit

abbrev EdT := (Int × Int) × (Int × Int)
def freeOf (ks es : List EdT) : List EdT := es.filter fun e => decide (bk e ∉ ks)
theorem freeOf_out {ks l1 l2 : List EdT} {e : EdT} (h : bk e ∈ ks) : freeOf ks (l1 ++ e :: l2) = freeOf ks (l1 ++ l2) := by
 unfold freeOf
 rw [List.filter_append, List.filter_append, List.filter_cons_of_neg (by simpa using h)]
theorem freeOf_in {ks l1 l2 : List EdT} {e : EdT} (h : bk e ∉ ks) : (freeOf ks (l1 ++ e :: l2)).Perm (e :: freeOf ks (l1 ++ l2)) := by
 unfold freeOf
 rw [List.filter_append, List.filter_append, List.filter_cons_of_pos (by simpa using h)]
 exact List.perm_middle
set_option maxRecDepth 100000 in
set_option maxHeartbeats 4000000 in
theorem around_any (b : Nat) (L : List (EdT × Int)) (w : World) (hm : MapIs w b gv iv OkE L) :
  Calls Tryz.prog 131 #[.map (some b)] w fun e w' => Below w.heap.size w w' ∧ ((e = .returned (.tuple #[.map none, .bool false]) ∧ ¬ ((freeOf (L.map Prod.fst) (L.map Prod.fst)).map Prod.fst).Nodup) ∨
   ∃ b2 S, e = .returned (.tuple #[.map (some b2), .bool true]) ∧ w.heap.size ≤ b2 ∧ MapIs w' b2 pv pv OkP S ∧ S.Perm (freeOf (L.map Prod.fst) (L.map Prod.fst))) := by
 have hmm := @run_makeMap Tryz.prog
 have HQ := (Hold.refl w).alloc (.map #[] 0)
 have HM0 : MapIs (w.alloc (.map #[] 0)) w.heap.size pv pv OkP ([] : List ((Int × Int) × (Int × Int))) := MapIs.made w
 have HM := hm.alloc (.map #[] 0)
 have HBL := Lib.hid hm.lt
 clear hm
 go_enter Tryz.func131, Tryz.ntmps131
 go_upto_region 2 with (fail)
 generalize (World.alloc _ _) = W1 at HQ HM0 HM ⊢
 obtain ⟨b2, hb2⟩ : ∃ b, w.heap.size = b := ⟨_, rfl⟩
 have HBB : Hid (w.heap.size = b2) := hb2
 rw [hb2] at HM0 ⊢
 have HBL2 : Hid (b < b2) := by unfold Hid; rw [← hb2]; exact HBL.out
 clear hb2 hmm
 go_wp2_with (at_range; refine wp_range rfl _ 147 rfl 76 3 Tryz.underlying147 b rfl HM ?_; intro W2 HR2 hg2 hs2)
 go_frame
 have HS2 := HM0.kept hg2 (by simp)
 have HW2 : Hold w [] W2 := ⟨HQ.1.grown hg2 HQ.1.size (fun k e => by cases e), fun _ h => (by cases h), List.Pairwise.nil⟩
 have HRB : Hid (b2 < W1.heap.size) := HM0.lt
 clear HM0 HM HQ hg2 hs2
 generalize W1.heap.size = r at *
 have HREL : Hid ((([] : List EdT) ++ freeOf (L.map Prod.fst) (L.map Prod.fst)).Perm (freeOf (L.map Prod.fst) (L.map Prod.fst))) := List.Perm.refl _
 generalize hks : L.map Prod.fst = ks at *
 have HKS := Lib.hid hks
 clear hks
 go_loopg [2] L.length (fun g m wr => ∃ left S, g = left.length ∧ m = .map (some b2) ∧ Ranges wr b r gv iv OkE L left ∧ MapIs wr b2 pv pv OkP S ∧ (S ++ freeOf ks (left.map Prod.fst)).Perm (freeOf ks ks) ∧ Hold w [] wr)
 case atStart => exact ⟨L, [], rfl, rfl, HR2, HS2, by rw [HKS.out]; exact HREL.out, HW2⟩
 case round =>
  clear HR2 HS2 HW2 HREL
  obtain ⟨left, S, hgl, rfl, HR, HM, hP, HB⟩ := hrel
  have HGL := Lib.hid hgl
  have HP := Lib.hid hP
  have HRS := Lib.hid HR
  have HMS := Lib.hid HM
  have HBS := Lib.hid HB
  clear hgl hP HR HM HB
  go_wp2_with (
   (at_next; refine wp_next rfl _ rfl r rfl HRS.out ?_ (fun l1 p l2 W5 hl hrg hg5 hs5 hen => ?_); rotate_left; (simp only [gv, iv] at hen ⊢); (have HL := Lib.hid hl); (have HRG := Lib.hid hrg); (have HG5 := Lib.hid hg5); clear hl hrg hg5 hs5; rotate_left))
  ·intro hnil
   have HPN : Hid (S.Perm (freeOf ks ks)) := by have := HP.out; rw [hnil] at this; unfold Hid; simpa [freeOf] using this
   clear hnil HP
   go_wp2
   refine bodyPost_ret (v := .tuple #[.map (some b2), .bool true]) ?_ rfl ⟨HBS.out.1, .inr ⟨b2, S, rfl, Nat.le_of_eq HBB.out, HMS.out, by rw [HKS.out]; exact HPN.out⟩⟩
   simp [results, Tryz.results131, go_sem]
  ·have hrg := HRG.out
   have hg5 := HG5.out
   obtain ⟨e, n⟩ := p
   have hpe : (e, n) ∈ L := by
    obtain ⟨es, c, since, seen, c0, _, _, _, _, _, _, _, _, _, hsub⟩ := HRS.out
    exact hsub.subset (by rw [HL.out]; exact List.mem_append_right _ List.mem_cons_self)
   have hok : OkE e := by
    obtain ⟨es, c, _, _, _, hok⟩ := hrg.isMap
    exact hok _ hpe
   have HOK := Lib.hid hok
   have HM5 := HMS.out.kept hg5 (by intro h; have := HRB.out; have := Option.some.inj h; omega)
   have HB5 : Hold w [] W5 := ⟨HBS.out.1.grown hg5 HBS.out.1.size (fun k h => by have := HBB.out; have := HRB.out; have := Option.some.inj h; omega), fun _ h => (by cases h), List.Pairwise.nil⟩
   clear hen hpe hok hg5
   dsimp only
   have HQ6 := HB5.new #[.int .i64 e.1.1, .int .i64 e.1.2, .int .i64 e.2.1, .int .i64 e.2.2] 76
   have HM6 := Lib.hid (HM5.alloc (.cells #[.int .i64 e.1.1, .int .i64 e.1.2, .int .i64 e.2.1, .int .i64 e.2.2] 76 (0, 0)))
   have HR6 := Lib.hid (hrg.alloc (.cells #[.int .i64 e.1.1, .int .i64 e.1.2, .int .i64 e.2.1, .int .i64 e.2.2] 76 (0, 0)))
   clear HB5 HM5 hrg
   generalize (World.alloc _ _) = W6 at HQ6 HM6 HR6 ⊢
   generalize W5.heap.size = ge at HQ6 ⊢
   obtain ⟨c0, c1, c2, c3⟩ := HQ6.q4 (.head _)
   have HT := Lib.hid (fun W => turned_any e W)
   have HQS := Lib.hid HQ6
   clear HQ6
   by_cases hm1 : bk e ∈ ks
   ·have HP1 : Hid ((S ++ freeOf ks ((l1 ++ l2).map Prod.fst)).Perm (freeOf ks ks)) := by
     have := HP.out
     rw [HL.out, List.map_append, List.map_cons, freeOf_out hm1, ← List.map_append] at this
     exact this
    have HMK : Hid (bk e ∈ L.map Prod.fst) := by unfold Hid; rw [HKS.out]; exact hm1
    have HOKB : Hid (OkE (bk e)) := ⟨HOK.out.2, HOK.out.1⟩
    have HLN : Hid ((l1 ++ l2).length < left.length) := by unfold Hid; rw [HL.out]; simp
    clear hm1
    go_wp2_with (first
     |(go_at_call 160; go_must (refine (HT.out _).mono ?_; rintro e' W8 ⟨rfl, HB8⟩; have HQ8 := Lib.hid (HQS.out.on HB8); have HM8 := Lib.hid (HM6.out.on HB8 HM6.out.lt); have HR8 := Lib.hid (HR6.out.on HB8 HR6.out.isMap.lt HR6.out.lt); clear HB8))
     |(at_lookup; refine wp_look_yes (z := 0) rfl _ _ 147 rfl 3 keyE Tryz.underlying147 (zeroI _) b rfl HR8.out.isMap HOKB.out HMK.out rfl ?_; intro y9 _))
    go_roundg ((l1 ++ l2).length)
    case measure => have := HGL.out; have := HLN.out; omega
    case rel => exact ⟨l1 ++ l2, S, rfl, rfl, HR8.out, HM8.out, HP1.out, HQ8.out.bare⟩
   ·have HMK : Hid (bk e ∉ L.map Prod.fst) := by unfold Hid; rw [HKS.out]; exact hm1
    have HOKB : Hid (OkE (bk e)) := ⟨HOK.out.2, HOK.out.1⟩
    have HLN : Hid ((l1 ++ l2).length < left.length) := by unfold Hid; rw [HL.out]; simp
    have HP1 : Hid ((S ++ e :: freeOf ks ((l1 ++ l2).map Prod.fst)).Perm (freeOf ks ks)) := by
     have := HP.out
     rw [HL.out, List.map_append, List.map_cons] at this
     rw [List.map_append]
     exact (List.Perm.append_left S (freeOf_in hm1).symm).trans this
    clear hm1
    by_cases hm2 : e.1 ∈ S.map Prod.fst
    ·have HDU : Hid (¬ ((freeOf ks ks).map Prod.fst).Nodup) := fun hnd => by
      have h := ((HP1.out.map Prod.fst).nodup_iff).2 hnd
      rw [List.map_append, List.map_cons, List.nodup_append] at h
      exact h.2.2 _ hm2 _ List.mem_cons_self rfl
     have HM2 := Lib.hid hm2
     clear hm2
     go_wp2_with (first
      |(go_at_call 160; go_must (refine (HT.out _).mono ?_; rintro e' W8 ⟨rfl, HB8⟩; have hq8 := HQS.out.on HB8; have HQ8 := Lib.hid hq8; obtain ⟨d0, d1, d2, d3⟩ := hq8.q4 (.head _); have HM8 := Lib.hid (HM6.out.on HB8 HM6.out.lt); have HR8 := Lib.hid (HR6.out.on HB8 HR6.out.isMap.lt HR6.out.lt); clear HB8 hq8))
      |(at_lookup; refine wp_look_no (z := 0) rfl _ _ 147 rfl 3 keyE Tryz.underlying147 (zeroI _) b rfl HR8.out.isMap HOKB.out HMK.out rfl ?_)
      |(at_lookup; refine wp_look_yes (z := (0, 0)) rfl _ _ 181 rfl 56 keyP Tryz.underlying181 (zeroP _) b2 rfl HM8.out HOK.out.1 HM2.out rfl ?_; intro y9 _; dsimp only [pv]))
     refine bodyPost_ret (v := .tuple #[.map none, .bool false]) ?_ rfl ⟨(HQ8.out.alloc _).1, .inl ⟨rfl, by rw [HKS.out]; exact HDU.out⟩⟩
     simp [results, Tryz.results131, go_sem]
    ·have HM2 := Lib.hid hm2
     clear hm2
     go_wp2_with (first
      |(go_at_call 160; go_must (refine (HT.out _).mono ?_; rintro e' W8 ⟨rfl, HB8⟩; have hq8 := HQS.out.on HB8; have HQ8 := Lib.hid hq8; obtain ⟨d0, d1, d2, d3⟩ := hq8.q4 (.head _); obtain ⟨f0, f1, f2, f3⟩ : (∀ o, (W8.alloc o).cell? ⟨ge, 0, none⟩ = some (.int .i64 e.1.1)) ∧ (∀ o, (W8.alloc o).cell? ⟨ge, 1, none⟩ = some (.int .i64 e.1.2)) ∧ (∀ o, (W8.alloc o).cell? ⟨ge, 2, none⟩ = some (.int .i64 e.2.1)) ∧ (∀ o, (W8.alloc o).cell? ⟨ge, 3, none⟩ = some (.int .i64 e.2.2)) := ⟨fun o => ((hq8.alloc o).q4 (.head _)).1, fun o => ((hq8.alloc o).q4 (.head _)).2.1, fun o => ((hq8.alloc o).q4 (.head _)).2.2.1, fun o => ((hq8.alloc o).q4 (.head _)).2.2.2⟩; have HM8 := Lib.hid (HM6.out.on HB8 HM6.out.lt); have HR8 := Lib.hid (HR6.out.on HB8 HR6.out.isMap.lt HR6.out.lt); clear HB8 hq8))
      |(at_lookup; refine wp_look_no (z := 0) rfl _ _ 147 rfl 3 keyE Tryz.underlying147 (zeroI _) b rfl HR8.out.isMap HOKB.out HMK.out rfl ?_)
      |(at_lookup; refine wp_look_no (z := (0, 0)) rfl _ _ 181 rfl 56 keyP Tryz.underlying181 (zeroP _) b2 rfl HM8.out HOK.out.1 HM2.out rfl ?_; dsimp only [pv])
      |(at_mapUpdate; refine wp_store (k := e.1) (y := e.2) rfl _ _ _ 181 rfl 56 keyP Tryz.underlying181 b2 rfl (HM8.out.alloc _) HOK.out.1 HM2.out rfl rfl ?_; intro W9 hm9 hg9 hs9; have HM9 := Lib.hid hm9; have HR9 := Lib.hid ((HR8.out.alloc _).kept hg9 (by intro h; have := HBL2.out; have := Option.some.inj h; omega) (by intro h; have := HRB.out; have := Option.some.inj h; omega)); have HB9 := Lib.hid (show Below w.heap.size w W9 from (HQ8.out.alloc _).1.grown hg9 (HQ8.out.alloc _).1.size (fun k h => by have := HBB.out; have := Option.some.inj h; omega)); clear hm9 hg9 hs9))
     go_roundg ((l1 ++ l2).length)
     case measure => have := HGL.out; have := HLN.out; omega
     case rel => exact ⟨l1 ++ l2, S ++ [e], rfl, rfl, HR9.out, HM9.out, by have := HP1.out; rw [List.append_assoc]; exact this, ⟨HB9.out, fun _ h => (by cases h), List.Pairwise.nil⟩⟩
end Go.Proofs.YtjlnjjmomohpaaaGreat

namespace Go.Proofs.YtjlnjjmomohpaaaGreat
open Go.RowKit
set_option maxRecDepth 100000 in
set_option maxHeartbeats 2000000 in
theorem indexE_any (es : List EdT) (A : Option Addr) (cap : Nat) (e : EdT) (hn : es.length ≤ 1000000) (w : World) (hr : Items w w.heap.size A encG es) :
  Calls Tryz.prog 161 #[.slice A es.length cap, .agg #[.int .i64 e.1.1, .int .i64 e.1.2, .int .i64 e.2.1, .int .i64 e.2.2]] w fun e' w' => ∃ n, e' = .returned (.int .i64 n) ∧ Plc es e n ∧ Below w.heap.size w w' := by
 have HR := Lib.hid (fun K W (h : Hold w K W) => hr.on h.1)
 have HQ := (Hold.refl w).new #[.int .i64 e.1.1, .int .i64 e.1.2, .int .i64 e.2.1, .int .i64 e.2.2] 76
 clear hr
 go_enter Tryz.func161, Tryz.ntmps161
 go_upto_region 1 with (fail)
 generalize (World.alloc _ _) = W1 at HQ ⊢
 obtain ⟨g0, hg0⟩ : ∃ g, w.heap.size = g := ⟨_, rfl⟩
 rw [hg0] at HQ ⊢
 have HG0 := Lib.hid hg0
 clear hg0
 go_wp2_with fail
 go_loopg [8] es.length (fun g i wr => ∃ k : Nat, k ≤ es.length ∧ g = es.length - k ∧ i = .int .i64 k ∧ (∀ j : Nat, j < k → es[j]? ≠ some e) ∧ Hold w [(g0, #[.int .i64 e.1.1, .int .i64 e.1.2, .int .i64 e.2.1, .int .i64 e.2.2], 76)] wr)
 case atStart => exact ⟨0, Nat.zero_le _, rfl, rfl, fun j hj => absurd hj (by omega), HQ⟩
 case round =>
  clear HQ
  obtain ⟨k, hk, hgk, rfl, hno, HB⟩ := hrel
  have HGK := Lib.hid hgk
  have HNO := Lib.hid hno
  clear hgk hno
  by_cases hlt : k < es.length
  ·obtain ⟨ad, rfl, -, hc0, hc⟩ := Items.at kindG.len (HR.out _ _ HB) hlt
   have d0 := hc0 _ (by decide) rfl
   have d1 := hc 1 _ (by decide) (by decide) rfl
   have d2 := hc 2 _ (by decide) (by decide) rfl
   have d3 := hc 3 _ (by decide) (by decide) rfl
   obtain ⟨c0, c1, c2, c3⟩ := HB.q4 List.mem_cons_self
   have HAT : Hid (es[k]? = some es[k]) := List.getElem?_eq_getElem hlt
   have b0 : (0 : Int) ≤ (k : Int) := by omega
   have b1 : (k : Int) < (es.length : Int) := by omega
   have HGN : Hid (es[k] ≠ e → ∀ j : Nat, j < k + 1 → es[j]? ≠ some e) := fun h j hj hh => by
    by_cases ej : j = k
    ·subst ej; rw [HAT.out] at hh; exact h (Option.some.inj hh)
    ·exact HNO.out j (by omega) hh
   clear hc0 hc HR
   generalize es[k] = x at *
   have hw : (e.1.1 = x.1.1 ∧ e.1.2 = x.1.2 ∧ e.2.1 = x.2.1 ∧ e.2.2 = x.2.2) ∨ ¬ e.1.1 = x.1.1 ∨ (e.1.1 = x.1.1 ∧ ¬ e.1.2 = x.1.2) ∨ (e.1.1 = x.1.1 ∧ e.1.2 = x.1.2 ∧ ¬ e.2.1 = x.2.1) ∨ (e.1.1 = x.1.1 ∧ e.1.2 = x.1.2 ∧ e.2.1 = x.2.1 ∧ ¬ e.2.2 = x.2.2) := by omega
   go_upto_region 4 with (fail)
   rcases hw with ⟨h1, h2, h3, h4⟩ | h1 | ⟨h1, h2⟩ | ⟨h1, h2, h3⟩ | ⟨h1, h2, h3, h4⟩
   ·have HP : Hid (Plc es e k) := .inr ⟨k, rfl, by rw [HAT.out]; exact congrArg some (Prod.ext (Prod.ext h1.symm h2.symm) (Prod.ext h3.symm h4.symm)), HNO.out⟩
    have e1 : (e.1.1 == x.1.1) = true := by simpa using h1
    have e2 : (e.1.2 == x.1.2) = true := by simpa using h2
    have e3 : (e.2.1 == x.2.1) = true := by simpa using h3
    have e4 : (e.2.2 == x.2.2) = true := by simpa using h4
    clear h1 h2 h3 h4 HGN HAT HNO HGK
    go_quiet (fail)
    have HK := Lib.hid (HB.drewN nq).1
    clear HB
    go_wp2
    go_ret
    exact ⟨_, rfl, HP.out, HK.out⟩
   ·have HN := Lib.hid (HGN.out fun h => h1 (by rw [h]))
    have e1 : (e.1.1 == x.1.1) = false := by simpa using h1
    clear h1 HGN HAT HNO
    go_quiet (fail)
    have HK := Lib.hid (HB.drewN nq)
    clear HB
    go_wp2
    go_roundg (es.length - (k + 1))
    case measure => have := HGK.out; omega
    case rel => exact ⟨k + 1, by omega, rfl, by go_num, HN.out, HK.out⟩
   ·have HN := Lib.hid (HGN.out fun h => h2 (by rw [h]))
    have e1 : (e.1.1 == x.1.1) = true := by simpa using h1
    have e2 : (e.1.2 == x.1.2) = false := by simpa using h2
    clear h1 h2 HGN HAT HNO
    go_quiet (fail)
    have HK := Lib.hid (HB.drewN nq)
    clear HB
    go_wp2
    go_roundg (es.length - (k + 1))
    case measure => have := HGK.out; omega
    case rel => exact ⟨k + 1, by omega, rfl, by go_num, HN.out, HK.out⟩
   ·have HN := Lib.hid (HGN.out fun h => h3 (by rw [h]))
    have e1 : (e.1.1 == x.1.1) = true := by simpa using h1
    have e2 : (e.1.2 == x.1.2) = true := by simpa using h2
    have e3 : (e.2.1 == x.2.1) = false := by simpa using h3
    clear h1 h2 h3 HGN HAT HNO
    go_quiet (fail)
    have HK := Lib.hid (HB.drewN nq)
    clear HB
    go_wp2
    go_roundg (es.length - (k + 1))
    case measure => have := HGK.out; omega
    case rel => exact ⟨k + 1, by omega, rfl, by go_num, HN.out, HK.out⟩
   ·have HN := Lib.hid (HGN.out fun h => h4 (by rw [h]))
    have e1 : (e.1.1 == x.1.1) = true := by simpa using h1
    have e2 : (e.1.2 == x.1.2) = true := by simpa using h2
    have e3 : (e.2.1 == x.2.1) = true := by simpa using h3
    have e4 : (e.2.2 == x.2.2) = false := by simpa using h4
    clear h1 h2 h3 h4 HGN HAT HNO
    go_quiet (fail)
    have HK := Lib.hid (HB.drewN nq)
    clear HB
    go_wp2
    go_roundg (es.length - (k + 1))
    case measure => have := HGK.out; omega
    case rel => exact ⟨k + 1, by omega, rfl, by go_num, HN.out, HK.out⟩
  ·obtain rfl : k = es.length := by omega
   have HP : Hid (Plc es e (-1)) := .inl ⟨rfl, fun h => by
    obtain ⟨i, hi, rfl⟩ := List.getElem_of_mem h
    exact HNO.out i hi (List.getElem?_eq_getElem hi)⟩
   have HK := Lib.hid HB.1
   clear HB HNO HR
   go_wp2
   go_ret
   exact ⟨_, rfl, HP.out, HK.out⟩
set_option maxHeartbeats 1000000 in
theorem containsE_any (es : List EdT) (A : Option Addr) (cap : Nat) (e : EdT) (hn : es.length ≤ 1000000) (w : World) (hr : Items w w.heap.size A encG es) :
  Calls Tryz.prog 132 #[.slice A es.length cap, .agg #[.int .i64 e.1.1, .int .i64 e.1.2, .int .i64 e.2.1, .int .i64 e.2.2]] w fun e' w' => e' = .returned (.bool (decide (e ∈ es))) ∧ Below w.heap.size w w' := by
 have HQ := (Hold.refl w).new #[.int .i64 e.1.1, .int .i64 e.1.2, .int .i64 e.2.1, .int .i64 e.2.2] 76
 have HI := Lib.hid (fun W (h : Below w.heap.size w W) => indexE_any es A cap e hn W (hr.on h))
 obtain ⟨bb, hbb⟩ : ∃ b : Bool, decide (e ∈ es) = b := ⟨_, rfl⟩
 have HBB : Hid (∀ n, Plc es e n → decide (0 ≤ n) = bb) := fun n hp => by rw [← hbb]; exact decide_eq_decide.2 hp.pos
 rw [hbb]
 clear hr hbb
 go_enter Tryz.func132, Tryz.ntmps132
 go_upto_region 1 with (fail)
 generalize (World.alloc _ _) = W1 at HQ ⊢
 generalize w.heap.size = g0 at HQ ⊢
 obtain ⟨c0, c1, c2, c3⟩ := HQ.q4 List.mem_cons_self
 have HQ1 := Lib.hid HQ
 clear HQ
 go_wp2_with (go_at_call 161; go_must (refine (HI.out _ HQ1.out.1).mono ?_; rintro e' w' ⟨n, rfl, hp, hb⟩; have HP := Lib.hid (HBB.out n hp); have HB := Lib.hid (HQ1.out.on hb).1; clear hp hb))
 go_ret
 exact ⟨by rw [← HP.out]; rfl, HB.out⟩

theorem Items.wide {α : Type} {w : World} {B B' : Nat} {A : Option Addr} {enc : α → List Value} {l : List α} (h : Items w B A enc l) (hB : B ≤ B') : Items w B' A enc l := fun hl => by
 obtain ⟨ad, e, hb, hc⟩ := h hl
 exact ⟨ad, e, Nat.lt_of_lt_of_le hb hB, hc⟩
def MatchP (ks : List EdT) (o : List (Int × Int)) : Prop := ((freeOf ks ks).map Prod.fst).Nodup ∧ (∀ e ∈ freeOf ks ks, e ∈ edg o) ∧ (freeOf ks ks).length = o.length
noncomputable def matchB (ks : List EdT) (o : List (Int × Int)) : Bool := @decide (MatchP ks o) (Classical.propDecidable _)
theorem matchB_iff {ks : List EdT} {o : List (Int × Int)} : matchB ks o = true ↔ MatchP ks o := by unfold matchB; exact @decide_eq_true_iff _ (Classical.propDecidable _)
theorem matchB_not {ks : List EdT} {o : List (Int × Int)} : matchB ks o = false ↔ ¬ MatchP ks o := by rw [← matchB_iff, Bool.not_eq_true]
set_option maxRecDepth 100000 in
set_option maxHeartbeats 4000000 in
theorem matched_any (b : Nat) (L : List (EdT × Int)) (o : List (Int × Int)) (A : Option Addr) (cap : Nat) (hn : o.length ≤ 1000000) (w : World) (hm : MapIs w b gv iv OkE L) (hr : Pts w w.heap.size A o) :
  Calls Tryz.prog 97 #[.map (some b), .slice A o.length cap] w fun e w' => e = .returned (.bool (matchB (L.map Prod.fst) o)) ∧ Below w.heap.size w w' := by
 have HA := Lib.hid (around_any b L w hm)
 have HE := Lib.hid (fun W (h : Below w.heap.size w W) => edges_any o A cap hn W (hr.on h))
 generalize hks : L.map Prod.fst = ks at *
 clear hm hr hks
 have HO := Lib.hid hn
 clear hn
 go_enter Tryz.func97, Tryz.ntmps97
 go_wp2_with fail
 go_at_call 131
 refine HA.out.mono ?_
 rintro e w1 ⟨HB1, ⟨rfl, hnd⟩ | ⟨b2, S, rfl, hb2, hS, hp⟩⟩
 ·have HF : Hid (matchB ks o = false) := matchB_not.2 fun h => hnd h.1
  have HB := Lib.hid HB1
  clear hnd HB1 HA
  have hrg := fun W => run_range_nilMap (P := Tryz.prog) W 181 56 56 Tryz.underlying181
  have hnx : ∀ (W : World) ty, (Instr.next (.pointer (some ⟨W.heap.size, 0, none⟩)) false ty).run Tryz.prog (W.alloc (.mapIter none 0 #[] 0)) = _ := fun W ty => run_next_nilMap W ty 0 0 #[]
  go_wp2_with fail
  go_at_call 130
  refine (HE.out _ HB.out).mono ?_
  rintro e w2 ⟨v, rfl, HV⟩
  have HB2 := Lib.hid (Below.trans HB.out (HV.1.mono HB.out.size))
  obtain ⟨A1, c1, rfl, -, -⟩ := HV.items
  clear HV
  have hrg2 := hrg w2
  have hnx2 := hnx w2
  clear hrg hnx
  go_wp2
  refine wp_loop_rounds 1 ?_
  rw [rounds_succ]
  go_wp2
  go_ret
  rw [HF.out]
  exact ⟨rfl, HB2.out.alloc HB2.out.size _⟩
 ·have HB := Lib.hid HB1
  have HP := Lib.hid hp
  have HSS := Lib.hid hS
  have HND := Lib.hid ((hp.map Prod.fst).nodup_iff.1 hS.nodup)
  have HB2L := Lib.hid hb2
  clear hp HB1 HA hS hb2
  go_wp2_with fail
  go_at_call 130
  refine (HE.out _ HB.out).mono ?_
  rintro e w2 ⟨v, rfl, HV⟩
  have HB2 := Below.trans HB.out (HV.1.mono HB.out.size)
  obtain ⟨A1, c1, hv1, HI, -⟩ := HV.items
  have HNE : Hid (∀ ad, A1 = some ad → ad.block < w2.heap.size) := fun ad e => (HV.2.lt ad.block (by rw [hv1, e]; rfl)).2
  subst hv1
  have HS2 := HSS.out.on HV.1 HSS.out.lt
  have HW := Lib.hid HB2
  have HEL : Hid ((edg o).length = o.length) := edg_len o
  have HIS := Lib.hid HI
  clear HV HE HB2 HI
  generalize hes : edg o = es at *
  have HES := Lib.hid hes
  clear hes
  go_wp2_with (at_range; refine wp_range rfl _ 181 rfl 56 56 Tryz.underlying181 b2 rfl HS2 ?_; intro W3 HR3 hg3 hs3)
  go_frame
  have HI3 := HIS.out.on (show Below w2.heap.size w2 W3 from ⟨hg3.os, hg3.tape, hg3.output, hg3.size, fun k hk => hg3.block k hk (by simp)⟩)
  have HB3 : Below w.heap.size w W3 := HW.out.grown hg3 HW.out.size (fun k e => by cases e)
  have HIX := Lib.hid HI3
  have HWX := Lib.hid HB3
  have HRL : Hid (w.heap.size ≤ w2.heap.size) := HW.out.size
  clear HS2 hg3 hs3 HI3 HB3
  generalize w2.heap.size = r at *
  go_loopg [] S.length (fun g wr => ∃ left, g = left.length ∧ Ranges wr b2 r pv pv OkP S left ∧ (∀ p ∈ S, p ∈ left ∨ p ∈ es) ∧ Items wr wr.heap.size A1 encG es ∧ Below w.heap.size w wr)
  case atStart => exact ⟨S, rfl, HR3, fun p hp => .inl hp, HIX.out, HWX.out⟩
  case round =>
   clear HR3 HIX HWX
   obtain ⟨left, hgl, HR, hin, HI, HB⟩ := hrel
   have HGL := Lib.hid hgl
   have HRS := Lib.hid HR
   have HIN := Lib.hid hin
   have HIS := Lib.hid HI
   have HBS := Lib.hid HB
   clear hgl HR hin HI HB
   go_wp2_with (
    (at_next; refine wp_next rfl _ rfl r rfl HRS.out ?_ (fun l1 p l2 W5 hl hrg hg5 hs5 hen => ?_); rotate_left; (simp only [pv] at hen ⊢); (have HL := Lib.hid hl); (have HRG := Lib.hid hrg); (have HG5 := Lib.hid hg5); clear hl hrg hg5 hs5; rotate_left))
   ·intro hnil
    have hlen : ∀ ty, (Builtin.len_ #[181] ty #[.map (some b2)]).run Tryz.prog wr = .ok (.int .i64 S.length) wr := fun ty => HRS.out.isMap.len Tryz.underlying181 ty
    have HALL : Hid (∀ e ∈ freeOf ks ks, e ∈ es) := fun e he => by
     rcases HIN.out e (HP.out.mem_iff.2 he) with h | h
     ·rw [hnil] at h; cases h
     ·exact h
    have HEQ : Hid (((S.length : Int) == (es.length : Int)) = matchB ks o) := by
     unfold Hid
     rw [Bool.eq_iff_iff, matchB_iff, beq_iff_eq, HEL.out, HP.out.length_eq]
     exact ⟨fun h => ⟨HND.out, by rw [HES.out]; exact HALL.out, by omega⟩, fun h => by have := h.2.2; omega⟩
    clear hnil
    go_wp2
    go_ret
    exact ⟨by rw [← HEQ.out]; rfl, HBS.out⟩
   ·have hg5 := HG5.out
    have HI5 := (HIS.out.but hg5 (fun ad e h => by have := HNE.out ad e; have := Option.some.inj h; omega)).wide hg5.size
    have HR5 := HRG.out
    have HB5 : Below w.heap.size w W5 := HBS.out.grown hg5 HBS.out.size (fun k e => by have := HRL.out; have := Option.some.inj e; omega)
    have HLN : Hid ((l1 ++ l2).length < left.length) := by unfold Hid; rw [HL.out]; simp
    have HPS : Hid (p ∈ S) := by
     obtain ⟨_, _, _, _, _, _, _, _, _, _, _, _, _, _, hsub⟩ := HRS.out
     exact hsub.subset (by rw [HL.out]; exact List.mem_append_right _ List.mem_cons_self)
    have h6 := (Below.refl _ W5).alloc (Nat.le_refl _) (.cells #[.int .i64 p.1.1, .int .i64 p.1.2] 56 (0, 0))
    have h7 := h6.alloc h6.size (.cells #[.int .i64 p.2.1, .int .i64 p.2.2] 56 (0, 0))
    have HI7 := HI5.on h7
    have HR7 := (HR5.alloc (.cells #[.int .i64 p.1.1, .int .i64 p.1.2] 56 (0, 0))).alloc (.cells #[.int .i64 p.2.1, .int .i64 p.2.2] 56 (0, 0))
    have HB7 := Below.trans HB5 (h7.mono HB5.size)
    have HOE := HO.out
    clear HI5 HR5 HB5 h6 h7 HRG HG5 hg5 hen
    generalize (World.alloc _ _) = W7 at HI7 HR7 HB7 ⊢
    go_at_call 132
    refine (containsE_any es A1 c1 p (by rw [HEL.out]; exact HOE) W7 HI7).mono ?_
    rintro e' W8 ⟨rfl, hB8⟩
    have HI8 := Lib.hid (HI7.on hB8)
    have HR8 := Lib.hid (HR7.on hB8 HR7.isMap.lt HR7.lt)
    have HB8 := Lib.hid (Below.trans HB7 (hB8.mono HB7.size))
    clear HI7 HR7 HB7 hB8 HOE
    by_cases hp : p ∈ es
    ·rw [decide_eq_true hp]
     have HN : Hid (∀ q ∈ S, q ∈ l1 ++ l2 ∨ q ∈ es) := fun q hq => by
      rcases HIN.out q hq with h | h
      ·rw [HL.out] at h
       rcases List.mem_append.1 h with h | h
       ·exact .inl (List.mem_append_left _ h)
       ·rcases List.mem_cons.1 h with rfl | h
        ·exact .inr hp
        ·exact .inl (List.mem_append_right _ h)
      ·exact .inr h
     clear hp
     go_wp2_with fail
     go_roundg ((l1 ++ l2).length)
     case measure => have := HGL.out; have := HLN.out; omega
     case rel => exact ⟨l1 ++ l2, rfl, HR8.out, HN.out, HI8.out, HB8.out⟩
    ·rw [decide_eq_false hp]
     have HF : Hid (matchB ks o = false) := matchB_not.2 fun h => hp (by have := h.2.1 p (HP.out.mem_iff.1 HPS.out); rwa [HES.out] at this)
     clear hp
     go_wp2
     go_ret
     rw [HF.out]
     exact ⟨rfl, HB8.out⟩
end Go.Proofs.YtjlnjjmomohpaaaGreat
