/- The program's stretchesOf: the edges of all rings, each once, whichever way round. -/
import Derived.Test.YtjlnjjmomohpaaaGreatPgH
import Derived.Test.YtjlnjjmomohpaaaGreatMapE
namespace Go.Proofs.YtjlnjjmomohpaaaGreat
open Go.RowKit

structure RV where
 ring : List (Int × Int)
 A : Option Addr
 cap : Nat
def encRV (x : RV) : List Value := [.slice x.A x.ring.length x.cap]
theorem kindRV : Kind 23 encRV 1 24 := Kind.mk' (z := .slice none 0 0) (fun _ => rfl) (fun a u hu => by
 simp only [encRV, List.mem_cons, List.not_mem_nil, or_false] at hu
 subst hu; rfl) (by decide) (by kernel_rfl) rfl
def Rgs (w : World) (A : Option Addr) (l : List RV) : Prop := Items w w.heap.size A encRV l ∧ ∀ x ∈ l, Pts w w.heap.size x.A x.ring
def rgs (l : List RV) : List (List (Int × Int)) := l.map RV.ring
theorem Rgs.on {w w' : World} {A : Option Addr} {l : List RV} (h : Rgs w A l) (hb : Below w.heap.size w w') : Rgs w' A l := ⟨h.1.on hb, fun x hx => (h.2 x hx).on hb⟩
theorem RowI.base {α : Type} {T : TypeId} {enc : α → List Value} {n : Nat} {w w1 W : World} {v : Value} {l : List α} (h : RowI w1 T n enc v l W) (hb : Below w.heap.size w w1) : RowI w T n enc v l W :=
 ⟨Below.trans hb (h.1.mono hb.size), h.2.1, h.2.2.imp id (fun ⟨g, cap, cur, e, hg, r⟩ => ⟨g, cap, cur, e, Nat.le_trans hb.size hg, r⟩)⟩
def stK (ks : List EdT) (e : EdT) : List EdT := if bk e ∈ ks then ks else addKey ks e
def stAll (es : List EdT) : List EdT := es.foldl stK []
theorem stK_yes {ks : List EdT} {e : EdT} (h : bk e ∈ ks) : stK ks e = ks := by unfold stK; rw [if_pos h]
theorem stK_no {ks : List EdT} {e : EdT} (h : bk e ∉ ks) : stK ks e = addKey ks e := by unfold stK; rw [if_neg h]
theorem grown_undrew {W W' : World} {row : Option Nat} (h : W.drew.grownBy W' row) : W.grownBy W' row := ⟨h.os, h.tape, h.output, h.size, h.block⟩
theorem grown_below {W W' : World} (h : Below W.heap.size W W') (row : Option Nat) : W.grownBy W' row := ⟨h.os, h.tape, h.output, h.size, fun k hk _ => h.block k hk⟩
theorem stAll_append (es fs : List EdT) : stAll (es ++ fs) = fs.foldl stK (stAll es) := by unfold stAll; rw [List.foldl_append]
theorem edgs_rgs_take {l : List RV} {k : Nat} (hk : k < l.length) : edgs (rgs (l.take (k + 1))) = edgs (rgs (l.take k)) ++ edg l[k].ring := by
 rw [List.take_succ_eq_append_getElem hk]
 unfold rgs edgs
 rw [List.map_append, List.flatMap_append]
 simp only [List.map_cons, List.map_nil, List.flatMap_cons, List.flatMap_nil, List.append_nil]
theorem stK_len (ks : List EdT) (e : EdT) : (stK ks e).length ≤ ks.length + 1 := by
 unfold stK addKey
 repeat' split
 all_goals simp
theorem foldl_stK_len : ∀ (es ks : List EdT), (es.foldl stK ks).length ≤ ks.length + es.length
 |[], ks => by simp
 |e :: es, ks => by
  have h1 := foldl_stK_len es (stK ks e)
  have h2 := stK_len ks e
  rw [List.foldl_cons, List.length_cons]; omega

set_option maxRecDepth 100000 in
set_option maxHeartbeats 1000000 in
theorem stretches_any (l : List RV) (Ap : Option Addr) (cp : Nat) (hn : (edgs (rgs l)).length ≤ 1000000) (hl : l.length ≤ 1000000) (hlen : ∀ x ∈ l, x.ring.length ≤ 1000000) (hgd : ∀ x ∈ l, ∀ p ∈ x.ring, Gd p) (w : World) (hr : Rgs w Ap l) :
  Calls Tryz.prog 135 #[.slice Ap l.length cp] w fun e w' => ∃ v ys, e = .returned v ∧ ys.Perm (stAll (edgs (rgs l))) ∧ RowI w 76 4 encG v ys w' := by
 have HR := Lib.hid (fun W (h : Below w.heap.size w W) => hr.on h)
 have HN := Lib.hid hn
 have HG := Lib.hid hgd
 have HLL := Lib.hid hlen
 have HQ := (Hold.refl w).alloc (.map #[] 0)
 have HM0 : MapIs (w.alloc (.map #[] 0)) w.heap.size gv iv OkE ([] : List (EdT × Int)) := MapIs.made w
 have hmm := @run_makeMap Tryz.prog
 clear hr hn hgd hlen
 go_enter Tryz.func135, Tryz.ntmps135
 go_upto_region 2 with (fail)
 generalize (World.alloc _ _) = W1 at HQ HM0 ⊢
 obtain ⟨b, hb⟩ : ∃ b, w.heap.size = b := ⟨_, rfl⟩
 have HBB : Hid (w.heap.size = b) := hb
 rw [hb] at HM0 ⊢
 clear hb hmm
 go_wp2_with fail
 go_loopg [13] l.length (fun g i wr => ∃ (k : Nat) (M : List (EdT × Int)), k ≤ l.length ∧ g = l.length - k ∧ i = .int .i64 k ∧ MapIs wr b gv iv OkE M ∧ M.map Prod.fst = stAll (edgs (rgs (l.take k))) ∧ Hold w [] wr)
 case atStart => exact ⟨0, [], Nat.zero_le _, rfl, rfl, HM0, rfl, HQ⟩
 case round =>
  clear HQ HM0
  obtain ⟨k, M, hk, hgk, rfl, HM, hMk, HB⟩ := hrel
  have HGK := Lib.hid hgk
  have HMK := Lib.hid hMk
  clear hgk hMk
  by_cases hlt : k < l.length
  ·have hw := HR.out _ HB.1
   obtain ⟨ad, rfl, hadb, hc0, -⟩ := hw.1.at kindRV.len hlt
   have d0 := hc0 _ (by decide) rfl
   rw [Nat.mul_one] at d0
   have hp := hw.2 l[k] (List.getElem_mem hlt)
   have HKT := Lib.hid (edgs_rgs_take hlt)
   have HGE := Lib.hid (fun e he => edg_gd (e := e) (HG.out _ (List.getElem_mem hlt)) he)
   have HLE := Lib.hid (HLL.out _ (List.getElem_mem hlt))
   have HEL := Lib.hid (edg_len l[k].ring)
   have HE := Lib.hid (edges_any l[k].ring l[k].A l[k].cap HLE.out wr hp)
   have HBX := Lib.hid HB
   have HMX := Lib.hid HM
   have b0 : (0 : Int) ≤ (k : Int) := by omega
   have b1 : (k : Int) < (l.length : Int) := by omega
   clear hw hp hc0 HM HB
   generalize edgs (rgs (l.take k)) = pre at *
   generalize l[k].ring = ps at *
   generalize l[k].A = Ak at *
   generalize l[k].cap = ck at *
   go_wp2_with fail
   go_at_call 130
   refine HE.out.mono ?_
   rintro e w1 ⟨v, rfl, HV1⟩
   obtain ⟨A1, c1', hv1, HI, HNO⟩ := HV1.items
   have HM3 := HMX.out.on HV1.1 HMX.out.lt
   have HQ3 := HBX.out.on HV1.1
   have hne1 : ∀ ad, A1 = some ad → some b ≠ some ad.block := fun ad' e h => by
    have h1 := HV1.2.lt ad'.block (by rw [hv1, e]; rfl)
    have h2 := HMX.out.lt
    have := Option.some.inj h
    omega
   have HNE := Lib.hid hne1
   subst hv1
   clear HV1 HE HNO hne1 d0 hadb
   have HI0 := Lib.hid HI
   have HMS := Lib.hid HM3
   have HQS := Lib.hid HQ3
   clear HI
   generalize hes : edg ps = es at *
   have HESL : Hid (es.length ≤ 1000000) := by unfold Hid; rw [HEL.out]; exact HLE.out
   clear hes HM3 HQ3
   go_wp2_with fail
   go_loopg [20] es.length (fun g i wr => ∃ (j : Nat) (M' : List (EdT × Int)), j ≤ es.length ∧ g = es.length - j ∧ i = .int .i64 j ∧ MapIs wr b gv iv OkE M' ∧ M'.map Prod.fst = (es.take j).foldl stK (stAll pre) ∧ w1.grownBy wr (some b))
   case atStart => exact ⟨0, M, Nat.zero_le _, rfl, rfl, HMS.out, HMK.out, World.grownBy.refl _ _⟩
   case round =>
    obtain ⟨j, M', hj, hgj, rfl, HM, hMj, hgr⟩ := hrel
    have HGJ := Lib.hid hgj
    have HMJ := Lib.hid hMj
    clear hgj hMj
    by_cases hjt : j < es.length
    ·obtain ⟨ad, rfl, hadb, hc0, hc⟩ := Items.at kindG.len (HI0.out.but hgr HNE.out) hjt
     have d0 := hc0 _ (by decide) rfl
     have d1 := hc 1 _ (by decide) (by decide) rfl
     have d2 := hc 2 _ (by decide) (by decide) rfl
     have d3 := hc 3 _ (by decide) (by decide) rfl
     have b2 : (0 : Int) ≤ (j : Int) := by omega
     have b3 : (j : Int) < (es.length : Int) := by omega
     have b4 : (es.length : Int) ≤ 1000000 := by have := HESL.out; omega
     have HOK : Hid (OkE es[j]) := okE_of (HGE.out _ (List.getElem_mem hjt)).1 (HGE.out _ (List.getElem_mem hjt)).2
     have HTK : Hid ((es.take (j + 1)).foldl stK (stAll pre) = stK ((es.take j).foldl stK (stAll pre)) es[j]) := by
      unfold Hid
      rw [List.take_succ_eq_append_getElem hjt, List.foldl_append]; rfl
     clear hc0 hc
     generalize es[j] = y at *
     go_upto_region 8 with (fail)
     have HQ5 := Lib.hid ((Hold.refl wr).new #[.int .i64 y.1.1, .int .i64 y.1.2, .int .i64 y.2.1, .int .i64 y.2.2] 76)
     have HM5 := HM.alloc (.cells #[.int .i64 y.1.1, .int .i64 y.1.2, .int .i64 y.2.1, .int .i64 y.2.2] 76 (0, 0))
     have hg5 := hgr.trans (World.grownBy_alloc wr (.cells #[.int .i64 y.1.1, .int .i64 y.1.2, .int .i64 y.2.1, .int .i64 y.2.2] 76 (0, 0)) (some b))
     have HBL : Hid (b < wr.heap.size) := HM.lt
     clear d0 d1 d2 d3 HM hgr hadb
     generalize (World.alloc _ _) = W5 at HQ5 HM5 hg5 ⊢
     generalize wr.heap.size = ge at HQ5 HBL ⊢
     obtain ⟨c0, c1, c2, c3⟩ := HQ5.out.q4 (.head _)
     have HG5 := Lib.hid hg5
     have HM6 := Lib.hid HM5
     have HT := Lib.hid (fun W => turned_any y W)
     have HOKB : Hid (OkE (bk y)) := ⟨HOK.out.2, HOK.out.1⟩
     clear HM5 hg5
     by_cases hm : bk y ∈ M'.map Prod.fst
     ·have HSK : Hid (stK ((es.take j).foldl stK (stAll pre)) y = (es.take j).foldl stK (stAll pre)) := by
       exact stK_yes (by rw [← HMJ.out]; exact hm)
      have HMM := Lib.hid hm
      clear hm
      go_wp2_with (first
       |(go_at_call 160; go_must (refine (HT.out _).mono ?_; rintro e' W8 ⟨rfl, HB8⟩; have HM8 := Lib.hid (HM6.out.on HB8 HM6.out.lt); have HG8 := Lib.hid (HG5.out.trans (grown_below HB8 (some b))); clear HB8))
       |(at_lookup; refine wp_look_yes (z := 0) rfl _ _ 147 rfl 3 keyE Tryz.underlying147 (zeroI _) b rfl HM8.out HOKB.out HMM.out rfl ?_; intro y9 _))
      go_roundg (es.length - (j + 1))
      case measure => have := HGJ.out; omega
      case rel => exact ⟨j + 1, M', by omega, rfl, by go_num, HM8.out, by rw [HTK.out, HSK.out]; exact HMJ.out, HG8.out⟩
     ·have HSK : Hid (stK ((es.take j).foldl stK (stAll pre)) y = addKey (M'.map Prod.fst) y) := by
       unfold Hid
       rw [stK_no (by rw [← HMJ.out]; exact hm), HMJ.out]
      have HMM := Lib.hid hm
      clear hm
      go_upto_region 10 with (first
       |(go_at_call 160; go_must (refine (HT.out _).mono ?_; rintro e' W8 ⟨rfl, HB8⟩; have HM8 := Lib.hid (HM6.out.on HB8 HM6.out.lt); have HQ8 := HQ5.out.on HB8; have HG8 := Lib.hid (HG5.out.trans (grown_below HB8 (some b))); clear HB8))
       |(at_lookup; refine wp_look_no (z := 0) rfl _ _ 147 rfl 3 keyE Tryz.underlying147 (zeroI _) b rfl HM8.out HOKB.out HMM.out rfl ?_))
      clear c0 c1 c2 c3
      have hgl := HQ8.lt (.head _)
      have HKC := Lib.hid (fun W (h : W8.grownBy W (some b)) => show W.cell? ⟨ge, 0, none⟩ = some (.int .i64 y.1.1) ∧ W.cell? ⟨ge, 1, none⟩ = some (.int .i64 y.1.2) ∧ W.cell? ⟨ge, 2, none⟩ = some (.int .i64 y.2.1) ∧ W.cell? ⟨ge, 3, none⟩ = some (.int .i64 y.2.2) from by
       have hne : some b ≠ some ge := fun e => by have := HBL.out; have := Option.some.inj e; omega
       obtain ⟨c0, c1, c2, c3⟩ := HQ8.q4 (.head _)
       exact ⟨(cell_but h hgl hne).trans c0, (cell_but h hgl hne).trans c1, (cell_but h hgl hne).trans c2, (cell_but h hgl hne).trans c3⟩)
      have HW0 : Hid (W8.grownBy W8.drew (some b)) := ⟨rfl, rfl, rfl, Nat.le_refl _, fun _ _ _ => rfl⟩
      clear HQ8 hgl
      refine wp_region_held_drew (S := fun W => W.cell? ⟨ge, 0, none⟩ = some (.int .i64 y.1.1) ∧ W.cell? ⟨ge, 1, none⟩ = some (.int .i64 y.1.2) ∧ W.cell? ⟨ge, 2, none⟩ = some (.int .i64 y.2.1) ∧ W.cell? ⟨ge, 3, none⟩ = some (.int .i64 y.2.2)) (by kernel_rfl) (HKC.out _ HW0.out) (fun hHeld => ?_)
      refine tZ 0 ?_; refine tZ 1 ?_
      refine wpAnyH_ready (rs := [2, 4]) (by decide +kernel) (by simp) ?_
      refine AllReadyH.cons rfl (fun K hK => ?_) (AllReadyH.cons rfl (fun K hK => ?_) AllReadyH.nil)
      ·refine step_look (z := 0) 147 3 keyE Tryz.underlying147 zeroI HM8.out.drew HOK.out (by rfl) _ _ (by rfl) (by rfl) (by rfl) ?_
       intro y3
       dsimp only [iv]
       refine hK.out _ _ hHeld (fun hHeld => ?_)
       clear hK K
       (try simp only [Act.put, jA, jB, jC, jD, jE, jF])
       refine tZ 3 ?_
       refine wpAnyH_ready (rs := [4]) (by decide +kernel) (by simp) ?_
       refine AllReadyH.cons rfl (fun K hK => ?_) AllReadyH.nil
       refine step_entry (z := 0) 147 3 keyE Tryz.underlying147 zeroI HM8.out.drew HOK.out (by rfl) _ _ (by rfl) (by rfl) (by rfl) ?_; intro y4 st W9 M1 hk1 hS1 hg1; have HK9 := Lib.hid hk1; have HS9 := Lib.hid hS1; have HG9 := Lib.hid (grown_undrew hg1); clear hk1 hS1 hg1
       refine hK.out _ _ ?_ (fun hHeld => ?_)
       focus ((try dsimp only); exact HKC.out _ HG9.out; done)
       clear hK K
       (try simp only [Act.put, jA, jB, jC, jD, jE, jF])
       refine tZ 5 ?_
       refine wpAnyH_ready (rs := [6]) (by decide +kernel) (by simp) ?_
       refine AllReadyH.cons rfl (fun K hK => ?_) AllReadyH.nil
       refine step_estore (ev := iv) 147 HS9.out (IntKind.i64.wrap (y3 + 1)) (by rfl) _ _ _ (by rfl) (by rfl) (by rfl) (by rfl) ?_; intro W10 M2 hk2 hM2 hg2; have HK10 := Lib.hid hk2; have HM10 := Lib.hid hM2; have HG10 := Lib.hid (HG9.out.trans hg2); clear hk2 hM2 hg2
       refine hK.out _ _ ?_ (fun hHeld => ?_)
       focus ((try dsimp only); exact HKC.out _ HG10.out; done)
       clear hK K
       (try simp only [Act.put, jA, jB, jC])
       refine wpAnyH_done (by decide +kernel) ?_ _
       clear hHeld
       go_wp2_with fail
       go_roundg (es.length - (j + 1))
       case measure => have := HGJ.out; omega
       case rel => exact ⟨j + 1, M2, by omega, rfl, by go_num, HM10.out, by rw [HTK.out, HSK.out, HK10.out, HK9.out], HG8.out.trans HG10.out⟩
      ·refine step_entry (z := 0) 147 3 keyE Tryz.underlying147 zeroI HM8.out.drew HOK.out (by rfl) _ _ (by rfl) (by rfl) (by rfl) ?_
       intro y4 st W9 M1 hk1 hS1 hg1
       have HK9 := Lib.hid hk1
       have HS9 := Lib.hid hS1
       have HG9 := Lib.hid (grown_undrew hg1)
       clear hk1 hS1 hg1
       refine hK.out _ _ (HKC.out _ HG9.out) (fun hHeld => ?_)
       clear hK K
       (try simp only [Act.put, jA, jB, jC, jD, jE, jF])
       refine tZ 5 ?_
       refine wpAnyH_ready (rs := [2]) (by decide +kernel) (by simp) ?_
       refine AllReadyH.cons rfl (fun K hK => ?_) AllReadyH.nil
       refine step_look (z := 0) 147 3 keyE Tryz.underlying147 zeroI HS9.out.isMap HOK.out (by rfl) _ _ (by rfl) (by rfl) (by rfl) ?_; intro y3; dsimp only [iv]
       refine hK.out _ _ ?_ (fun hHeld => ?_)
       focus ((try dsimp only); exact hHeld; done)
       clear hK K
       (try simp only [Act.put, jA, jB, jC, jD, jE, jF])
       refine tZ 3 ?_
       refine wpAnyH_ready (rs := [6]) (by decide +kernel) (by simp) ?_
       refine AllReadyH.cons rfl (fun K hK => ?_) AllReadyH.nil
       refine step_estore (ev := iv) 147 HS9.out (IntKind.i64.wrap (y3 + 1)) (by rfl) _ _ _ (by rfl) (by rfl) (by rfl) (by rfl) ?_; intro W10 M2 hk2 hM2 hg2; have HK10 := Lib.hid hk2; have HM10 := Lib.hid hM2; have HG10 := Lib.hid (HG9.out.trans hg2); clear hk2 hM2 hg2
       refine hK.out _ _ ?_ (fun hHeld => ?_)
       focus ((try dsimp only); exact HKC.out _ HG10.out; done)
       clear hK K
       (try simp only [Act.put, jA, jB, jC])
       refine wpAnyH_done (by decide +kernel) ?_ _
       clear hHeld
       go_wp2_with fail
       go_roundg (es.length - (j + 1))
       case measure => have := HGJ.out; omega
       case rel => exact ⟨j + 1, M2, by omega, rfl, by go_num, HM10.out, by rw [HTK.out, HSK.out, HK10.out, HK9.out], HG8.out.trans HG10.out⟩
    ·obtain rfl : j = es.length := by omega
     have HB9 : Hid (Hold w [] wr) := ⟨HQS.out.1.grown hgr HQS.out.1.size (fun k e => by have := HBB.out; have := Option.some.inj e; omega), fun _ h => (by cases h), List.Pairwise.nil⟩
     have HM9 := Lib.hid HM
     have HMJ2 : Hid (M'.map Prod.fst = stAll (pre ++ es)) := by unfold Hid; rw [stAll_append, HMJ.out, List.take_length]
     clear HM hgr HMJ
     go_wp2_with fail
     go_roundg (l.length - (k + 1))
     case measure => have := HGK.out; omega
     case rel => exact ⟨k + 1, M', by omega, rfl, by go_num, HM9.out, by rw [HKT.out]; exact HMJ2.out, HB9.out⟩
  ·obtain rfl : k = l.length := by omega
   have hML : M.length ≤ 1000000 := by
    have h1 := HMK.out
    rw [List.take_length] at h1
    have h2 := foldl_stK_len (edgs (rgs l)) []
    have h3 : (M.map Prod.fst).length = (stAll (edgs (rgs l))).length := by rw [h1]
    rw [List.length_map] at h3
    unfold stAll at h3
    have := HN.out
    simp only [List.length_nil] at h2
    omega
   have HCC := Lib.hid (collect_any wr.heap.size b M hML (wr.alloc (.cells #[.map (some b)] 147)) (by simp) (blk_cell (heap_alloc_new _ _) 0) (HM.alloc _))
   have HB9 := Lib.hid (HB.alloc (.cells #[.map (some b)] 147)).1
   have HMF : Hid (M.map Prod.fst = stAll (edgs (rgs l))) := by have := HMK.out; rwa [List.take_length] at this
   clear HM HB hML HMK
   go_wp2_with (first
    |(go_at_call 167; refine (keys_any _ _).mono ?_; rintro e w' ⟨rfl, rfl⟩)
    |(go_at_call 166; go_must (refine HCC.out.mono ?_; rintro e w' ⟨v, ys, rfl, hp, hr⟩; have HP := Lib.hid hp; have HRR := Lib.hid hr; clear hp hr)))
   go_ret
   exact ⟨v, ys, rfl, by rw [← HMF.out]; exact HP.out, HRR.out.base HB9.out⟩
end Go.Proofs.YtjlnjjmomohpaaaGreat

namespace Go.Proofs.YtjlnjjmomohpaaaGreat
open Go.RowKit

def joinB (a b : EdT) : Bool := decide (a.1 = b.1 ∨ a.1 = b.2 ∨ a.2 = b.1 ∨ a.2 = b.2)
theorem joinB_iff {a b : EdT} : joinB a b = true ↔ a.1 = b.1 ∨ a.1 = b.2 ∨ a.2 = b.1 ∨ a.2 = b.2 := by unfold joinB; exact decide_eq_true_iff
theorem joinB_not {a b : EdT} (h : ¬ (a.1 = b.1 ∨ a.1 = b.2 ∨ a.2 = b.1 ∨ a.2 = b.2)) : joinB a b = false := by unfold joinB; exact decide_eq_false h
set_option maxRecDepth 100000 in
set_option maxHeartbeats 2000000 in
theorem joined_any (a b : EdT) (w : World) : Calls Tryz.prog 169 #[.agg #[.int .i64 a.1.1, .int .i64 a.1.2, .int .i64 a.2.1, .int .i64 a.2.2], .agg #[.int .i64 b.1.1, .int .i64 b.1.2, .int .i64 b.2.1, .int .i64 b.2.2]] w fun e' w' => e' = .returned (.bool (joinB a b)) ∧ Below w.heap.size w w' := by
 have HQ := ((Hold.refl w).new #[.int .i64 a.1.1, .int .i64 a.1.2, .int .i64 a.2.1, .int .i64 a.2.2] 76).new' #[.int .i64 b.1.1, .int .i64 b.1.2, .int .i64 b.2.1, .int .i64 b.2.2] 76 (n := w.heap.size + 1) (by simp)
 go_enter Tryz.func169, Tryz.ntmps169
 go_upto_region 1 with (fail)
 generalize (World.alloc _ _) = W1 at HQ ⊢
 generalize w.heap.size + 1 = g1 at HQ ⊢
 obtain ⟨g0, hg0⟩ : ∃ g, w.heap.size = g := ⟨_, rfl⟩
 have HK := Lib.hid HQ.1
 rw [hg0] at HQ ⊢
 clear hg0
 obtain ⟨c0, c1, c2, c3⟩ := HQ.q4 (List.mem_cons_of_mem _ List.mem_cons_self)
 obtain ⟨k0, k1, k2, k3⟩ := HQ.q4 List.mem_cons_self
 clear HQ
 by_cases h0 : a.1.1 = b.1.1
 ·by_cases h1 : a.1.2 = b.1.2
  ·skip
   first
   |(exfalso; omega)
   |(have HG : Hid (joinB a b = true) := joinB_iff.2 (.inl (Prod.ext h0 h1)); have e0 : (a.1.1 == b.1.1) = true := (by simpa using h0); have e1 : (a.1.2 == b.1.2) = true := (by simpa using h1); clear h0 h1; go_wp2; go_ret; exact ⟨by rw [HG.out]; rfl, HK.out⟩)
  ·skip
   by_cases h2 : a.1.1 = b.2.1
   ·by_cases h3 : a.1.2 = b.2.2
    ·skip
     first
     |(exfalso; omega)
     |(have HG : Hid (joinB a b = true) := joinB_iff.2 (.inr (.inl (Prod.ext h2 h3))); have e0 : (a.1.1 == b.1.1) = true := (by simpa using h0); have e1 : (a.1.2 == b.1.2) = false := (by simpa using h1); have e2 : (a.1.1 == b.2.1) = true := (by simpa using h2); have e3 : (a.1.2 == b.2.2) = true := (by simpa using h3); clear h0 h1 h2 h3; go_wp2; go_ret; exact ⟨by rw [HG.out]; rfl, HK.out⟩)
    ·skip
     by_cases h4 : a.2.1 = b.1.1
     ·by_cases h5 : a.2.2 = b.1.2
      ·skip
       first
       |(exfalso; omega)
       |(have HG : Hid (joinB a b = true) := joinB_iff.2 (.inr (.inr (.inl (Prod.ext h4 h5)))); have e0 : (a.1.1 == b.1.1) = true := (by simpa using h0); have e1 : (a.1.2 == b.1.2) = false := (by simpa using h1); have e2 : (a.1.1 == b.2.1) = true := (by simpa using h2); have e3 : (a.1.2 == b.2.2) = false := (by simpa using h3); have e4 : (a.2.1 == b.1.1) = true := (by simpa using h4); have e5 : (a.2.2 == b.1.2) = true := (by simpa using h5); clear h0 h1 h2 h3 h4 h5; go_wp2; go_ret; exact ⟨by rw [HG.out]; rfl, HK.out⟩)
      ·skip
       by_cases h6 : a.2.1 = b.2.1
       ·by_cases h7 : a.2.2 = b.2.2
        ·skip
         first
         |(exfalso; omega)
         |(have HG : Hid (joinB a b = true) := joinB_iff.2 (.inr (.inr (.inr (Prod.ext h6 h7)))); have e0 : (a.1.1 == b.1.1) = true := (by simpa using h0); have e1 : (a.1.2 == b.1.2) = false := (by simpa using h1); have e2 : (a.1.1 == b.2.1) = true := (by simpa using h2); have e3 : (a.1.2 == b.2.2) = false := (by simpa using h3); have e4 : (a.2.1 == b.1.1) = true := (by simpa using h4); have e5 : (a.2.2 == b.1.2) = false := (by simpa using h5); have e6 : (a.2.1 == b.2.1) = true := (by simpa using h6); have e7 : (a.2.2 == b.2.2) = true := (by simpa using h7); clear h0 h1 h2 h3 h4 h5 h6 h7; go_wp2; go_ret; exact ⟨by rw [HG.out]; rfl, HK.out⟩)
        ·skip
         first
         |(exfalso; omega)
         |(have HG : Hid (joinB a b = false) := joinB_not (fun h => by rw [Prod.ext_iff, Prod.ext_iff, Prod.ext_iff, Prod.ext_iff] at h; omega); have e0 : (a.1.1 == b.1.1) = true := (by simpa using h0); have e1 : (a.1.2 == b.1.2) = false := (by simpa using h1); have e2 : (a.1.1 == b.2.1) = true := (by simpa using h2); have e3 : (a.1.2 == b.2.2) = false := (by simpa using h3); have e4 : (a.2.1 == b.1.1) = true := (by simpa using h4); have e5 : (a.2.2 == b.1.2) = false := (by simpa using h5); have e6 : (a.2.1 == b.2.1) = true := (by simpa using h6); have e7 : (a.2.2 == b.2.2) = false := (by simpa using h7); clear h0 h1 h2 h3 h4 h5 h6 h7; go_wp2; go_ret; exact ⟨by rw [HG.out]; rfl, HK.out⟩)
       ·skip
        first
        |(exfalso; omega)
        |(have HG : Hid (joinB a b = false) := joinB_not (fun h => by rw [Prod.ext_iff, Prod.ext_iff, Prod.ext_iff, Prod.ext_iff] at h; omega); have e0 : (a.1.1 == b.1.1) = true := (by simpa using h0); have e1 : (a.1.2 == b.1.2) = false := (by simpa using h1); have e2 : (a.1.1 == b.2.1) = true := (by simpa using h2); have e3 : (a.1.2 == b.2.2) = false := (by simpa using h3); have e4 : (a.2.1 == b.1.1) = true := (by simpa using h4); have e5 : (a.2.2 == b.1.2) = false := (by simpa using h5); have e6 : (a.2.1 == b.2.1) = false := (by simpa using h6); clear h0 h1 h2 h3 h4 h5 h6; go_wp2; go_ret; exact ⟨by rw [HG.out]; rfl, HK.out⟩)
     ·skip
      by_cases h5 : a.2.1 = b.2.1
      ·by_cases h6 : a.2.2 = b.2.2
       ·skip
        first
        |(exfalso; omega)
        |(have HG : Hid (joinB a b = true) := joinB_iff.2 (.inr (.inr (.inr (Prod.ext h5 h6)))); have e0 : (a.1.1 == b.1.1) = true := (by simpa using h0); have e1 : (a.1.2 == b.1.2) = false := (by simpa using h1); have e2 : (a.1.1 == b.2.1) = true := (by simpa using h2); have e3 : (a.1.2 == b.2.2) = false := (by simpa using h3); have e4 : (a.2.1 == b.1.1) = false := (by simpa using h4); have e5 : (a.2.1 == b.2.1) = true := (by simpa using h5); have e6 : (a.2.2 == b.2.2) = true := (by simpa using h6); clear h0 h1 h2 h3 h4 h5 h6; go_wp2; go_ret; exact ⟨by rw [HG.out]; rfl, HK.out⟩)
       ·skip
        first
        |(exfalso; omega)
        |(have HG : Hid (joinB a b = false) := joinB_not (fun h => by rw [Prod.ext_iff, Prod.ext_iff, Prod.ext_iff, Prod.ext_iff] at h; omega); have e0 : (a.1.1 == b.1.1) = true := (by simpa using h0); have e1 : (a.1.2 == b.1.2) = false := (by simpa using h1); have e2 : (a.1.1 == b.2.1) = true := (by simpa using h2); have e3 : (a.1.2 == b.2.2) = false := (by simpa using h3); have e4 : (a.2.1 == b.1.1) = false := (by simpa using h4); have e5 : (a.2.1 == b.2.1) = true := (by simpa using h5); have e6 : (a.2.2 == b.2.2) = false := (by simpa using h6); clear h0 h1 h2 h3 h4 h5 h6; go_wp2; go_ret; exact ⟨by rw [HG.out]; rfl, HK.out⟩)
      ·skip
       first
       |(exfalso; omega)
       |(have HG : Hid (joinB a b = false) := joinB_not (fun h => by rw [Prod.ext_iff, Prod.ext_iff, Prod.ext_iff, Prod.ext_iff] at h; omega); have e0 : (a.1.1 == b.1.1) = true := (by simpa using h0); have e1 : (a.1.2 == b.1.2) = false := (by simpa using h1); have e2 : (a.1.1 == b.2.1) = true := (by simpa using h2); have e3 : (a.1.2 == b.2.2) = false := (by simpa using h3); have e4 : (a.2.1 == b.1.1) = false := (by simpa using h4); have e5 : (a.2.1 == b.2.1) = false := (by simpa using h5); clear h0 h1 h2 h3 h4 h5; go_wp2; go_ret; exact ⟨by rw [HG.out]; rfl, HK.out⟩)
   ·skip
    by_cases h3 : a.2.1 = b.1.1
    ·by_cases h4 : a.2.2 = b.1.2
     ·skip
      first
      |(exfalso; omega)
      |(have HG : Hid (joinB a b = true) := joinB_iff.2 (.inr (.inr (.inl (Prod.ext h3 h4)))); have e0 : (a.1.1 == b.1.1) = true := (by simpa using h0); have e1 : (a.1.2 == b.1.2) = false := (by simpa using h1); have e2 : (a.1.1 == b.2.1) = false := (by simpa using h2); have e3 : (a.2.1 == b.1.1) = true := (by simpa using h3); have e4 : (a.2.2 == b.1.2) = true := (by simpa using h4); clear h0 h1 h2 h3 h4; go_wp2; go_ret; exact ⟨by rw [HG.out]; rfl, HK.out⟩)
     ·skip
      by_cases h5 : a.2.1 = b.2.1
      ·by_cases h6 : a.2.2 = b.2.2
       ·skip
        first
        |(exfalso; omega)
        |(have HG : Hid (joinB a b = true) := joinB_iff.2 (.inr (.inr (.inr (Prod.ext h5 h6)))); have e0 : (a.1.1 == b.1.1) = true := (by simpa using h0); have e1 : (a.1.2 == b.1.2) = false := (by simpa using h1); have e2 : (a.1.1 == b.2.1) = false := (by simpa using h2); have e3 : (a.2.1 == b.1.1) = true := (by simpa using h3); have e4 : (a.2.2 == b.1.2) = false := (by simpa using h4); have e5 : (a.2.1 == b.2.1) = true := (by simpa using h5); have e6 : (a.2.2 == b.2.2) = true := (by simpa using h6); clear h0 h1 h2 h3 h4 h5 h6; go_wp2; go_ret; exact ⟨by rw [HG.out]; rfl, HK.out⟩)
       ·skip
        first
        |(exfalso; omega)
        |(have HG : Hid (joinB a b = false) := joinB_not (fun h => by rw [Prod.ext_iff, Prod.ext_iff, Prod.ext_iff, Prod.ext_iff] at h; omega); have e0 : (a.1.1 == b.1.1) = true := (by simpa using h0); have e1 : (a.1.2 == b.1.2) = false := (by simpa using h1); have e2 : (a.1.1 == b.2.1) = false := (by simpa using h2); have e3 : (a.2.1 == b.1.1) = true := (by simpa using h3); have e4 : (a.2.2 == b.1.2) = false := (by simpa using h4); have e5 : (a.2.1 == b.2.1) = true := (by simpa using h5); have e6 : (a.2.2 == b.2.2) = false := (by simpa using h6); clear h0 h1 h2 h3 h4 h5 h6; go_wp2; go_ret; exact ⟨by rw [HG.out]; rfl, HK.out⟩)
      ·skip
       first
       |(exfalso; omega)
       |(have HG : Hid (joinB a b = false) := joinB_not (fun h => by rw [Prod.ext_iff, Prod.ext_iff, Prod.ext_iff, Prod.ext_iff] at h; omega); have e0 : (a.1.1 == b.1.1) = true := (by simpa using h0); have e1 : (a.1.2 == b.1.2) = false := (by simpa using h1); have e2 : (a.1.1 == b.2.1) = false := (by simpa using h2); have e3 : (a.2.1 == b.1.1) = true := (by simpa using h3); have e4 : (a.2.2 == b.1.2) = false := (by simpa using h4); have e5 : (a.2.1 == b.2.1) = false := (by simpa using h5); clear h0 h1 h2 h3 h4 h5; go_wp2; go_ret; exact ⟨by rw [HG.out]; rfl, HK.out⟩)
    ·skip
     by_cases h4 : a.2.1 = b.2.1
     ·by_cases h5 : a.2.2 = b.2.2
      ·skip
       first
       |(exfalso; omega)
       |(have HG : Hid (joinB a b = true) := joinB_iff.2 (.inr (.inr (.inr (Prod.ext h4 h5)))); have e0 : (a.1.1 == b.1.1) = true := (by simpa using h0); have e1 : (a.1.2 == b.1.2) = false := (by simpa using h1); have e2 : (a.1.1 == b.2.1) = false := (by simpa using h2); have e3 : (a.2.1 == b.1.1) = false := (by simpa using h3); have e4 : (a.2.1 == b.2.1) = true := (by simpa using h4); have e5 : (a.2.2 == b.2.2) = true := (by simpa using h5); clear h0 h1 h2 h3 h4 h5; go_wp2; go_ret; exact ⟨by rw [HG.out]; rfl, HK.out⟩)
      ·skip
       first
       |(exfalso; omega)
       |(have HG : Hid (joinB a b = false) := joinB_not (fun h => by rw [Prod.ext_iff, Prod.ext_iff, Prod.ext_iff, Prod.ext_iff] at h; omega); have e0 : (a.1.1 == b.1.1) = true := (by simpa using h0); have e1 : (a.1.2 == b.1.2) = false := (by simpa using h1); have e2 : (a.1.1 == b.2.1) = false := (by simpa using h2); have e3 : (a.2.1 == b.1.1) = false := (by simpa using h3); have e4 : (a.2.1 == b.2.1) = true := (by simpa using h4); have e5 : (a.2.2 == b.2.2) = false := (by simpa using h5); clear h0 h1 h2 h3 h4 h5; go_wp2; go_ret; exact ⟨by rw [HG.out]; rfl, HK.out⟩)
     ·skip
      first
      |(exfalso; omega)
      |(have HG : Hid (joinB a b = false) := joinB_not (fun h => by rw [Prod.ext_iff, Prod.ext_iff, Prod.ext_iff, Prod.ext_iff] at h; omega); have e0 : (a.1.1 == b.1.1) = true := (by simpa using h0); have e1 : (a.1.2 == b.1.2) = false := (by simpa using h1); have e2 : (a.1.1 == b.2.1) = false := (by simpa using h2); have e3 : (a.2.1 == b.1.1) = false := (by simpa using h3); have e4 : (a.2.1 == b.2.1) = false := (by simpa using h4); clear h0 h1 h2 h3 h4; go_wp2; go_ret; exact ⟨by rw [HG.out]; rfl, HK.out⟩)
 ·skip
  by_cases h1 : a.1.1 = b.2.1
  ·by_cases h2 : a.1.2 = b.2.2
   ·skip
    first
    |(exfalso; omega)
    |(have HG : Hid (joinB a b = true) := joinB_iff.2 (.inr (.inl (Prod.ext h1 h2))); have e0 : (a.1.1 == b.1.1) = false := (by simpa using h0); have e1 : (a.1.1 == b.2.1) = true := (by simpa using h1); have e2 : (a.1.2 == b.2.2) = true := (by simpa using h2); clear h0 h1 h2; go_wp2; go_ret; exact ⟨by rw [HG.out]; rfl, HK.out⟩)
   ·skip
    by_cases h3 : a.2.1 = b.1.1
    ·by_cases h4 : a.2.2 = b.1.2
     ·skip
      first
      |(exfalso; omega)
      |(have HG : Hid (joinB a b = true) := joinB_iff.2 (.inr (.inr (.inl (Prod.ext h3 h4)))); have e0 : (a.1.1 == b.1.1) = false := (by simpa using h0); have e1 : (a.1.1 == b.2.1) = true := (by simpa using h1); have e2 : (a.1.2 == b.2.2) = false := (by simpa using h2); have e3 : (a.2.1 == b.1.1) = true := (by simpa using h3); have e4 : (a.2.2 == b.1.2) = true := (by simpa using h4); clear h0 h1 h2 h3 h4; go_wp2; go_ret; exact ⟨by rw [HG.out]; rfl, HK.out⟩)
     ·skip
      by_cases h5 : a.2.1 = b.2.1
      ·by_cases h6 : a.2.2 = b.2.2
       ·skip
        first
        |(exfalso; omega)
        |(have HG : Hid (joinB a b = true) := joinB_iff.2 (.inr (.inr (.inr (Prod.ext h5 h6)))); have e0 : (a.1.1 == b.1.1) = false := (by simpa using h0); have e1 : (a.1.1 == b.2.1) = true := (by simpa using h1); have e2 : (a.1.2 == b.2.2) = false := (by simpa using h2); have e3 : (a.2.1 == b.1.1) = true := (by simpa using h3); have e4 : (a.2.2 == b.1.2) = false := (by simpa using h4); have e5 : (a.2.1 == b.2.1) = true := (by simpa using h5); have e6 : (a.2.2 == b.2.2) = true := (by simpa using h6); clear h0 h1 h2 h3 h4 h5 h6; go_wp2; go_ret; exact ⟨by rw [HG.out]; rfl, HK.out⟩)
       ·skip
        first
        |(exfalso; omega)
        |(have HG : Hid (joinB a b = false) := joinB_not (fun h => by rw [Prod.ext_iff, Prod.ext_iff, Prod.ext_iff, Prod.ext_iff] at h; omega); have e0 : (a.1.1 == b.1.1) = false := (by simpa using h0); have e1 : (a.1.1 == b.2.1) = true := (by simpa using h1); have e2 : (a.1.2 == b.2.2) = false := (by simpa using h2); have e3 : (a.2.1 == b.1.1) = true := (by simpa using h3); have e4 : (a.2.2 == b.1.2) = false := (by simpa using h4); have e5 : (a.2.1 == b.2.1) = true := (by simpa using h5); have e6 : (a.2.2 == b.2.2) = false := (by simpa using h6); clear h0 h1 h2 h3 h4 h5 h6; go_wp2; go_ret; exact ⟨by rw [HG.out]; rfl, HK.out⟩)
      ·skip
       first
       |(exfalso; omega)
       |(have HG : Hid (joinB a b = false) := joinB_not (fun h => by rw [Prod.ext_iff, Prod.ext_iff, Prod.ext_iff, Prod.ext_iff] at h; omega); have e0 : (a.1.1 == b.1.1) = false := (by simpa using h0); have e1 : (a.1.1 == b.2.1) = true := (by simpa using h1); have e2 : (a.1.2 == b.2.2) = false := (by simpa using h2); have e3 : (a.2.1 == b.1.1) = true := (by simpa using h3); have e4 : (a.2.2 == b.1.2) = false := (by simpa using h4); have e5 : (a.2.1 == b.2.1) = false := (by simpa using h5); clear h0 h1 h2 h3 h4 h5; go_wp2; go_ret; exact ⟨by rw [HG.out]; rfl, HK.out⟩)
    ·skip
     by_cases h4 : a.2.1 = b.2.1
     ·by_cases h5 : a.2.2 = b.2.2
      ·skip
       first
       |(exfalso; omega)
       |(have HG : Hid (joinB a b = true) := joinB_iff.2 (.inr (.inr (.inr (Prod.ext h4 h5)))); have e0 : (a.1.1 == b.1.1) = false := (by simpa using h0); have e1 : (a.1.1 == b.2.1) = true := (by simpa using h1); have e2 : (a.1.2 == b.2.2) = false := (by simpa using h2); have e3 : (a.2.1 == b.1.1) = false := (by simpa using h3); have e4 : (a.2.1 == b.2.1) = true := (by simpa using h4); have e5 : (a.2.2 == b.2.2) = true := (by simpa using h5); clear h0 h1 h2 h3 h4 h5; go_wp2; go_ret; exact ⟨by rw [HG.out]; rfl, HK.out⟩)
      ·skip
       first
       |(exfalso; omega)
       |(have HG : Hid (joinB a b = false) := joinB_not (fun h => by rw [Prod.ext_iff, Prod.ext_iff, Prod.ext_iff, Prod.ext_iff] at h; omega); have e0 : (a.1.1 == b.1.1) = false := (by simpa using h0); have e1 : (a.1.1 == b.2.1) = true := (by simpa using h1); have e2 : (a.1.2 == b.2.2) = false := (by simpa using h2); have e3 : (a.2.1 == b.1.1) = false := (by simpa using h3); have e4 : (a.2.1 == b.2.1) = true := (by simpa using h4); have e5 : (a.2.2 == b.2.2) = false := (by simpa using h5); clear h0 h1 h2 h3 h4 h5; go_wp2; go_ret; exact ⟨by rw [HG.out]; rfl, HK.out⟩)
     ·skip
      first
      |(exfalso; omega)
      |(have HG : Hid (joinB a b = false) := joinB_not (fun h => by rw [Prod.ext_iff, Prod.ext_iff, Prod.ext_iff, Prod.ext_iff] at h; omega); have e0 : (a.1.1 == b.1.1) = false := (by simpa using h0); have e1 : (a.1.1 == b.2.1) = true := (by simpa using h1); have e2 : (a.1.2 == b.2.2) = false := (by simpa using h2); have e3 : (a.2.1 == b.1.1) = false := (by simpa using h3); have e4 : (a.2.1 == b.2.1) = false := (by simpa using h4); clear h0 h1 h2 h3 h4; go_wp2; go_ret; exact ⟨by rw [HG.out]; rfl, HK.out⟩)
  ·skip
   by_cases h2 : a.2.1 = b.1.1
   ·by_cases h3 : a.2.2 = b.1.2
    ·skip
     first
     |(exfalso; omega)
     |(have HG : Hid (joinB a b = true) := joinB_iff.2 (.inr (.inr (.inl (Prod.ext h2 h3)))); have e0 : (a.1.1 == b.1.1) = false := (by simpa using h0); have e1 : (a.1.1 == b.2.1) = false := (by simpa using h1); have e2 : (a.2.1 == b.1.1) = true := (by simpa using h2); have e3 : (a.2.2 == b.1.2) = true := (by simpa using h3); clear h0 h1 h2 h3; go_wp2; go_ret; exact ⟨by rw [HG.out]; rfl, HK.out⟩)
    ·skip
     by_cases h4 : a.2.1 = b.2.1
     ·by_cases h5 : a.2.2 = b.2.2
      ·skip
       first
       |(exfalso; omega)
       |(have HG : Hid (joinB a b = true) := joinB_iff.2 (.inr (.inr (.inr (Prod.ext h4 h5)))); have e0 : (a.1.1 == b.1.1) = false := (by simpa using h0); have e1 : (a.1.1 == b.2.1) = false := (by simpa using h1); have e2 : (a.2.1 == b.1.1) = true := (by simpa using h2); have e3 : (a.2.2 == b.1.2) = false := (by simpa using h3); have e4 : (a.2.1 == b.2.1) = true := (by simpa using h4); have e5 : (a.2.2 == b.2.2) = true := (by simpa using h5); clear h0 h1 h2 h3 h4 h5; go_wp2; go_ret; exact ⟨by rw [HG.out]; rfl, HK.out⟩)
      ·skip
       first
       |(exfalso; omega)
       |(have HG : Hid (joinB a b = false) := joinB_not (fun h => by rw [Prod.ext_iff, Prod.ext_iff, Prod.ext_iff, Prod.ext_iff] at h; omega); have e0 : (a.1.1 == b.1.1) = false := (by simpa using h0); have e1 : (a.1.1 == b.2.1) = false := (by simpa using h1); have e2 : (a.2.1 == b.1.1) = true := (by simpa using h2); have e3 : (a.2.2 == b.1.2) = false := (by simpa using h3); have e4 : (a.2.1 == b.2.1) = true := (by simpa using h4); have e5 : (a.2.2 == b.2.2) = false := (by simpa using h5); clear h0 h1 h2 h3 h4 h5; go_wp2; go_ret; exact ⟨by rw [HG.out]; rfl, HK.out⟩)
     ·skip
      first
      |(exfalso; omega)
      |(have HG : Hid (joinB a b = false) := joinB_not (fun h => by rw [Prod.ext_iff, Prod.ext_iff, Prod.ext_iff, Prod.ext_iff] at h; omega); have e0 : (a.1.1 == b.1.1) = false := (by simpa using h0); have e1 : (a.1.1 == b.2.1) = false := (by simpa using h1); have e2 : (a.2.1 == b.1.1) = true := (by simpa using h2); have e3 : (a.2.2 == b.1.2) = false := (by simpa using h3); have e4 : (a.2.1 == b.2.1) = false := (by simpa using h4); clear h0 h1 h2 h3 h4; go_wp2; go_ret; exact ⟨by rw [HG.out]; rfl, HK.out⟩)
   ·skip
    by_cases h3 : a.2.1 = b.2.1
    ·by_cases h4 : a.2.2 = b.2.2
     ·skip
      first
      |(exfalso; omega)
      |(have HG : Hid (joinB a b = true) := joinB_iff.2 (.inr (.inr (.inr (Prod.ext h3 h4)))); have e0 : (a.1.1 == b.1.1) = false := (by simpa using h0); have e1 : (a.1.1 == b.2.1) = false := (by simpa using h1); have e2 : (a.2.1 == b.1.1) = false := (by simpa using h2); have e3 : (a.2.1 == b.2.1) = true := (by simpa using h3); have e4 : (a.2.2 == b.2.2) = true := (by simpa using h4); clear h0 h1 h2 h3 h4; go_wp2; go_ret; exact ⟨by rw [HG.out]; rfl, HK.out⟩)
     ·skip
      first
      |(exfalso; omega)
      |(have HG : Hid (joinB a b = false) := joinB_not (fun h => by rw [Prod.ext_iff, Prod.ext_iff, Prod.ext_iff, Prod.ext_iff] at h; omega); have e0 : (a.1.1 == b.1.1) = false := (by simpa using h0); have e1 : (a.1.1 == b.2.1) = false := (by simpa using h1); have e2 : (a.2.1 == b.1.1) = false := (by simpa using h2); have e3 : (a.2.1 == b.2.1) = true := (by simpa using h3); have e4 : (a.2.2 == b.2.2) = false := (by simpa using h4); clear h0 h1 h2 h3 h4; go_wp2; go_ret; exact ⟨by rw [HG.out]; rfl, HK.out⟩)
    ·skip
     first
     |(exfalso; omega)
     |(have HG : Hid (joinB a b = false) := joinB_not (fun h => by rw [Prod.ext_iff, Prod.ext_iff, Prod.ext_iff, Prod.ext_iff] at h; omega); have e0 : (a.1.1 == b.1.1) = false := (by simpa using h0); have e1 : (a.1.1 == b.2.1) = false := (by simpa using h1); have e2 : (a.2.1 == b.1.1) = false := (by simpa using h2); have e3 : (a.2.1 == b.2.1) = false := (by simpa using h3); clear h0 h1 h2 h3; go_wp2; go_ret; exact ⟨by rw [HG.out]; rfl, HK.out⟩)
end Go.Proofs.YtjlnjjmomohpaaaGreat
