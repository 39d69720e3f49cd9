/- Layer record's laws: the given answer. -/
import Derived.Test.YtoiamjglklgcdaaGreatRItems
import Derived.Test.YtoiamjglklgcdaaGreatLeft
import Derived.Test.YtoiamjglklgcdaaGreatRDltP
import Derived.Test.YtoiamjglklgcdaaGreatOpenIts
namespace Go.Proofs.YtoiamjglklgcdaaGreat
open Go.RowKit Go.Lib


def rNo : ByteArray := ⟨#[]⟩
theorem rNo_ok : OwnOk rNo := ⟨fun j hj => absurd (show j < 0 from hj) (by omega), by decide⟩
theorem gv_items : (itmL gvR [⟨1, gvR, rNo⟩]).length = 8 := by decide +kernel
set_option maxHeartbeats 1000000 in
theorem rec_answers (w : World) :
  Calls Tryz.prog 9 #[] w fun e w' => e = .returned (.bool true) ∧ Below w.heap.size w w' := by
 have HQ := ((Hold.refl w).new (flatP gvR).toArray 56).new' #[.int .i64 1, .slice (some ⟨w.heap.size, 0, none⟩) 4 4, .string rNo] 58 (n := w.heap.size + 1) (by simp)
 have hp1 := pts_of (ps := gvR) (HQ.2.1 _ (.tail _ (.head _))).1 (HQ.lt (.tail _ (.head _)))
 have hpl : PlanAt _ gvR (some ⟨w.heap.size, 0, none⟩) 4 [⟨⟨1, gvR, rNo⟩, some ⟨w.heap.size, 0, none⟩, 4⟩] (some ⟨w.heap.size + 1, 0, none⟩) 1 := ⟨⟨items_one (HQ.2.1 _ (.head _)).1 rfl (HQ.lt (.head _)), fun x hx => by
  rw [List.mem_singleton.1 hx]
  exact ⟨hp1, (fun e => by cases e), (show gvR.length * 16 ≤ 140737488355328 by decide)⟩⟩, hp1, (fun e => by cases e), by decide, by decide, fun x hx => by
  rw [List.mem_singleton.1 hx]
  show gvR.length ≤ 4
  decide⟩
 have HIT := Lib.hid (Items_good gvR (some ⟨w.heap.size, 0, none⟩) 4 [⟨⟨1, gvR, rNo⟩, some ⟨w.heap.size, 0, none⟩, 4⟩] (some ⟨w.heap.size + 1, 0, none⟩) 1 (one_checks gv_norm gv_id rNo_ok) _ hpl)
 have HB := Lib.hid HQ.1
 clear HQ hp1 hpl
 go_enter Tryz.func9, Tryz.ntmps9
 go_wp2_with fail
 go_at_call 11
 refine HIT.out.mono ?_
 clear HIT
 rintro e' W4 ⟨v, L, rfl, hp, -, hr⟩
 obtain ⟨A, c, l', rfl, -, -, -, hl⟩ := hr.items
 have h8 : L.length = 8 := by rw [hp.length_eq]; exact gv_items
 have HB4 := Lib.hid (HB.out.trans (hr.below.mono HB.out.size))
 rw [h8]
 clear hp hr hl h8
 go_wp2
 go_ret
 exact ⟨rfl, HB4.out⟩
end Go.Proofs.YtoiamjglklgcdaaGreat

namespace Go.Proofs.YtoiamjglklgcdaaGreat
open Go.RowKit Go.Lib

def KsAt (W : World) (A : Option Addr) (l : List KV) : Prop := Items W W.heap.size A encK l ∧ ∀ x ∈ l, KAt W x
theorem KsAt.on {W W' : World} {A : Option Addr} {l : List KV} (h : KsAt W A l) (hb : Below W.heap.size W W') : KsAt W' A l := ⟨h.1.on hb, fun x hx => (h.2 x hx).on hb⟩
theorem KRow.its {w W : World} {v : Value} {l : List (List UInt8)} (h : KRow w v l W) : ∃ A c l', v = .slice A l'.length c ∧ KsAt W A l' ∧ l'.map KV.key = l := by
 obtain ⟨l', h1, h2, h3⟩ := h
 obtain ⟨A, c, e, hi, -⟩ := h1.items
 exact ⟨A, c, l', e, ⟨hi, h2⟩, h3⟩
theorem ks_at {W : World} {A : Option Addr} {l : List KV} (h : KsAt W A l) {k : Nat} (hk : k < l.length) : ∃ ad, A = some ad ∧ W.cell? (ad.add k) = some (.slice l[k].A l[k].key.length l[k].c) := by
 obtain ⟨ad, e, -, h0, -⟩ := h.1.at kindK.len hk
 have := h0 _ (by decide) rfl
 rw [Nat.mul_one] at this
 exact ⟨ad, e, this⟩
set_option maxRecDepth 100000 in
set_option maxHeartbeats 8000000 in
theorem delta_walk (a b : List IV) (Aa Ab : Option Addr) (ca cb : Nat) (hsa : ∀ x ∈ a, x.key.length ≤ 140737488355328 ∧ x.val.length ≤ 140737488355328) (hsb : ∀ x ∈ b, x.key.length ≤ 140737488355328 ∧ x.val.length ≤ 140737488355328) (w : World) (ha : ItsRd w Aa a) (hb : ItsRd w Ab b) :
  Calls Tryz.prog 6 #[.slice Aa a.length ca, .slice Ab b.length cb] w fun e w' => e = .returned (.bool true) ∧ Below w.heap.size w w' := by
 have HAN := Lib.hid (fun W => rec_answers W)
 have HA := Lib.hid (fun W (h : Below w.heap.size w W) => ha.on h)
 have HB := Lib.hid (fun W (h : Below w.heap.size w W) => hb.on h)
 have HOA := Lib.hid (fun (h3 : a.length ≤ 300) W (h : Below w.heap.size w W) => ownR_any a Aa ca (by omega) hsa W (ha.on h))
 have HOB := Lib.hid (fun (h3 : b.length ≤ 300) W (h : Below w.heap.size w W) => ownR_any b Ab cb (by omega) hsb W (hb.on h))
 have HSB := Lib.hid hsb
 clear ha hb hsa hsb
 go_enter Tryz.func6, Tryz.ntmps6
 go_wp2_with fail
 go_at_call 9
 refine (HAN.out _).mono ?_
 rintro e W1 ⟨rfl, hB1⟩
 have HB1 := Lib.hid hB1
 clear hB1
 by_cases h3 : a.length ≤ 300 ∧ b.length ≤ 300
 ·obtain ⟨h3a, h3b⟩ := h3
  have n1 : ¬ (300 : Int) < (a.length : Int) := by omega
  have n2 : ¬ (300 : Int) < (b.length : Int) := by omega
  have H3A := Lib.hid h3a
  have H3B := Lib.hid h3b
  clear h3a h3b
  go_upto_region 3 with (fail)
  have HO1 := Lib.hid (HOA.out H3A.out _ HB1.out)
  clear HOA
  go_wp2_with fail
  go_at_call 18
  refine HO1.out.mono ?_
  rintro e W2 ⟨v2, rfl, hr2⟩
  have HB2 := Lib.hid (HB1.out.trans (hr2.below.mono HB1.out.size))
  obtain ⟨A1, c1, la, rfl, hi1, -, hm1⟩ := hr2.its
  have HI1 := Lib.hid (fun W (h : Below W2.heap.size W2 W) => hi1.on h)
  have HM1 := Lib.hid hm1
  have HO2 := Lib.hid (HOB.out H3B.out _ HB2.out)
  clear HOB HO1 hr2 hi1 hm1
  go_wp2_with fail
  go_at_call 18
  refine HO2.out.mono ?_
  rintro e W3 ⟨v3, rfl, hr3⟩
  have HB3 := Lib.hid (HB2.out.trans (hr3.below.mono HB2.out.size))
  obtain ⟨A2, c2, lb, rfl, hi2, -, hm2⟩ := hr3.its
  have HI2 := Lib.hid hi2
  have HM2 := Lib.hid hm2
  have HD := Lib.hid (Delta_any la lb A1 A2 c1 c2 (by have h1 := congrArg List.length HM1.out; rw [List.length_map, List.length_map] at h1; have := H3A.out; omega) (by have h1 := congrArg List.length hm2; rw [List.length_map, List.length_map] at h1; have := H3B.out; omega) (fun x hx => by
   have h1 : x.it ∈ lb.map IV.it := List.mem_map_of_mem hx
   rw [hm2] at h1
   obtain ⟨y, hy, e⟩ := List.mem_map.1 h1
   have h2 := (HSB.out y hy).2
   have h4 : y.val = x.val := congrArg Prod.snd e
   rw [← h4]; exact h2) W3 (HI1.out W3 hr3.below) hi2)
  clear hr3 hi2 hm2 HO2 HSB HI1
  go_wp2_with fail
  go_at_call 20
  refine HD.out.mono ?_
  rintro e W4 ⟨vp, vg, z1, z2, rfl, hp1, hm1, hp2, hm2, hrp, hrg⟩
  have HB4 := Lib.hid (HB3.out.trans (hrp.below.mono HB3.out.size))
  rw [putD_it, HM1.out, HM2.out] at hrp
  rw [goneL_it, HM2.out] at hrg
  obtain ⟨Ap, cp, lp, rfl, hip, -, hmp⟩ := hrp.its
  obtain ⟨Ag, cg, lg, rfl, hig, hmg⟩ := hrg.its
  have HIP := Lib.hid (fun W (h : Below W4.heap.size W4 W) => hip.on h)
  have HIG := Lib.hid (fun W (h : Below W4.heap.size W4 W) => hig.on h)
  have HMP := Lib.hid hmp
  have HMG := Lib.hid hmg
  have HP1 := Lib.hid hp1
  have HP2 := Lib.hid hp2
  have HZ1 : Hid (∀ z, z ∈ z1 ↔ (lastIt (a.map IV.it) z).isSome = true) := fun z => by rw [hm1, lastV_it, HM1.out]
  have HZ2 : Hid (∀ z, z ∈ z2 ↔ (lastIt (b.map IV.it) z).isSome = true) := fun z => by rw [hm2, lastV_it, HM2.out]
  have HNP : Hid (lp.length = cntL (b.map IV.it) (wantB (a.map IV.it) (b.map IV.it)) b.length) := by
   unfold Hid
   have h1 := cnt_all (b.map IV.it) z2 (bl_nodup hp2) HZ2.out (wantB (a.map IV.it) (b.map IV.it))
   rw [List.length_map] at h1
   rw [h1, ← putI_keys (fun z hz => (HZ2.out z).1 hz), List.length_map, ← hmp, List.length_map]
  have HNG : Hid (lg.length = cntL (a.map IV.it) (fun z => (lastIt (b.map IV.it) z).isNone) a.length) := by
   unfold Hid
   have h1 := cnt_all (a.map IV.it) z1 (bl_nodup hp1) HZ1.out (fun z => (lastIt (b.map IV.it) z).isNone)
   rw [List.length_map] at h1
   rw [h1, ← hmg, List.length_map]
  have HLP : Hid (lp.length ≤ 300) := by rw [HNP.out]; exact Nat.le_trans (cntL_le _ _ _) H3B.out
  have HLG : Hid (lg.length ≤ 300) := by rw [HNG.out]; exact Nat.le_trans (cntL_le _ _ _) H3A.out
  have HRS := Lib.hid (rising_good lp Ap cp (by have := HLP.out; omega) (by rw [hmp]; exact putI_lt hp2) W4 hip)
  clear hp1 hm1 hp2 hm2 hrp hrg hip hig hmp hmg HD HM1 HM2 HI2 HB1 HB2 HB3
  go_upto_region 4 with (fail)
  go_wp2_with fail
  go_at_call 15
  refine HRS.out.mono ?_
  rintro e W5 ⟨rfl, hB5⟩
  have HB5 := Lib.hid hB5
  have HW5 := Lib.hid (HB4.out.trans (hB5.mono HB4.out.size))
  clear hB5 HRS n1 n2
  go_wp2_with fail
  go_loopg [7, 8] b.length (fun g n i wr => ∃ k : Nat, k ≤ b.length ∧ g = b.length - k ∧ n = .int .i64 (cntL (b.map IV.it) (wantB (a.map IV.it) (b.map IV.it)) k : Nat) ∧ i = .int .i64 (k : Int) ∧ Below W5.heap.size W5 wr)
  case atStart => exact ⟨0, Nat.zero_le _, rfl, rfl, rfl, Below.refl _ _⟩
  case round =>
   obtain ⟨k, hk, hgk, rfl, rfl, hBk⟩ := hrel
   have HGK := Lib.hid hgk
   have HBK := Lib.hid hBk
   have HCL := Lib.hid (cntL_le (b.map IV.it) (wantB (a.map IV.it) (b.map IV.it)) k)
   have HCN := Lib.hid (cntL_next (b.map IV.it) (wantB (a.map IV.it) (b.map IV.it)) k)
   clear hgk hBk
   by_cases hlt : k < b.length
   ·have b0 : (0 : Int) ≤ (k : Int) := by omega
    have b1 : (k : Int) < (b.length : Int) := by omega
    have hk0 : IntKind.i64.wrap ((k : Int) + 1) = (k : Int) + 1 := IntWalk.i64_in _ (by have := H3B.out; omega)
    have HBw := Lib.hid (HW5.out.trans (HBK.out.mono HW5.out.size))
    have HB4k := Lib.hid (HB5.out.trans (HBK.out.mono HB5.out.size))
    obtain ⟨ad, hA, -, -⟩ := itsR_at (HB.out _ HBw.out) hlt
    have hLk : (b.map IV.it).getD k ([], []) = (b[k].key, b[k].val) := it_get b hlt
    have HFB := Lib.hid (find_last (b.map IV.it) b[k].key)
    have HFA := Lib.hid (find_last (a.map IV.it) b[k].key)
    rw [hLk] at HCN
    unfold isLast at HCN
    rw [hLk] at HCN
    have HX := Lib.hid (fun W (h : Below w.heap.size w W) => (HB.out W h).2 b[k] (List.getElem_mem hlt))
    have HCX : Hid (∀ W, Below w.heap.size w W → W.cell? (ad.add (k * 2)) = some (.slice b[k].kA b[k].key.length b[k].kc) ∧ W.cell? ⟨(ad.add (k * 2)).block, (ad.add (k * 2)).off + 1, none⟩ = some (.slice b[k].vA b[k].val.length b[k].vc)) := fun W h => by
     obtain ⟨ad', e, h0, h1⟩ := itsR_at (HB.out W h) hlt
     obtain rfl := Option.some.inj (hA.symm.trans e)
     exact ⟨h0, h1⟩
    subst hA
    have hbk : Hid ((b.map IV.it)[k]'(by simpa using hlt) = (b[k].key, b[k].val)) := by unfold Hid; rw [List.getElem_map]; rfl
    clear hLk
    generalize b[k] = x at *
    obtain ⟨c0, -⟩ := HCX.out wr HBw.out
    have HF1 := Lib.hid (findR_any b (some ad) cb x.key x.kA x.kc (by have := H3B.out; omega) wr (HB.out _ HBw.out) (HX.out _ HBw.out).key)
    by_cases hfi : findI (b.map IV.it) x.key = (k : Int)
    ·have HLB : Hid (lastIt (b.map IV.it) x.key = some x.val) := by
      rcases HFB.out with ⟨k', e1, h1, -, h2⟩ | ⟨e1, -⟩
      ·obtain rfl : k = k' := by rw [hfi] at e1; omega
       rw [hbk.out] at h2; exact h2
      ·rw [hfi] at e1; omega
     have HZK : Hid (x.key ∈ z2) := (HZ2.out _).2 (by rw [HLB.out]; rfl)
     rw [hfi] at HF1 HCN
     have hxk : ¬ (k : Int) ≠ (k : Int) := fun h => h rfl
     rcases HFA.out with ⟨ka, e1, h1, -, h3⟩ | ⟨e1, h3⟩
     ·have h1' : ka < a.length := by rw [List.length_map] at h1; exact h1
      have h3' : lastIt (a.map IV.it) x.key = some a[ka].val := by rw [h3, List.getElem_map]; rfl
      obtain ⟨ada, hAa, -, -⟩ := itsR_at (HA.out _ HBw.out) h1'
      have HCA : Hid (∀ W, Below w.heap.size w W → W.cell? ⟨(ada.add (ka * 2)).block, (ada.add (ka * 2)).off + 1, none⟩ = some (.slice a[ka].vA a[ka].val.length a[ka].vc) ∧ (convert 37 9 (.slice a[ka].vA a[ka].val.length a[ka].vc)).run Tryz.prog W = .ok (.string ⟨a[ka].val.toArray⟩) W) := fun W h => by
       obtain ⟨ad', e, -, h4⟩ := itsR_at (HA.out W h) h1'
       obtain rfl := Option.some.inj (hAa.symm.trans e)
       exact ⟨h4, conv_str ((HA.out W h).2 a[ka] (List.getElem_mem h1')).val⟩
      have hka0 : (0 : Int) ≤ (ka : Int) := by omega
      have hka1 : (ka : Int) < (a.length : Int) := by omega
      have hka2 : ¬ (ka : Int) < 0 := by omega
      have HF2 := Lib.hid (fun W (h : Below wr.heap.size wr W) => show Calls Tryz.prog 16 #[.slice Aa a.length ca, .slice x.kA x.key.length x.kc] W fun e w' => e = .returned (.int .i64 (ka : Int)) ∧ Below W.heap.size W w' by
       have h8 := HBw.out.trans (h.mono HBw.out.size)
       have := findR_any a Aa ca x.key x.kA x.kc (by have := H3A.out; omega) W (HA.out W h8) (HX.out W h8).key
       rw [e1] at this; exact this)
      subst hAa
      clear h1 h3 e1
      generalize a[ka].vA = yA at *
      generalize a[ka].vc = yc at *
      generalize a[ka].val = yv at *
      by_cases hv : yv = x.val
      ·subst hv
       have hwt : wantB (a.map IV.it) (b.map IV.it) x.key = false := by unfold wantB; rw [h3', HLB.out]; simp
       have HC0 : Hid (cntL (b.map IV.it) (wantB (a.map IV.it) (b.map IV.it)) (k + 1) = cntL (b.map IV.it) (wantB (a.map IV.it) (b.map IV.it)) k) := by
        unfold Hid
        rw [HCN.out, hwt]
        simp
       have em := put_not (La := a.map IV.it) (Lb := b.map IV.it) (zs := z2) HLB.out h3'
       have HF3 := Lib.hid (fun W (h : Below wr.heap.size wr W) => show Calls Tryz.prog 16 #[.slice Ap lp.length cp, .slice x.kA x.key.length x.kc] W fun e w' => e = .returned (.int .i64 (-1)) ∧ Below W.heap.size W w' by
        have h8 := HBw.out.trans (h.mono HBw.out.size)
        have := findR_any lp Ap cp x.key x.kA x.kc (by have := HLP.out; omega) W (HIP.out W (HB4k.out.trans (h.mono HB4k.out.size))).rd (HX.out W h8).key
        rw [HMP.out, em] at this; exact this)
       clear HFA HFB hwt h3' em
       go_upto_region 13 with (go_at_call 16; go_must (first
        |((with_reducible refine HF1.out.mono ?_); rintro e' W9 ⟨rfl, hB9⟩; obtain ⟨c1, -⟩ := HCX.out W9 (HBw.out.trans (hB9.mono HBw.out.size)); have HB9 := Lib.hid hB9; clear hB9)
        |((with_reducible refine (HF2.out _ HB9.out).mono ?_); rintro e' W10 ⟨rfl, hB10⟩; have HB10 := Lib.hid (HB9.out.trans (hB10.mono HB9.out.size)); obtain ⟨c2, -⟩ := HCX.out W10 (HBw.out.trans (HB10.out.mono HBw.out.size)); clear hB10)
        |((with_reducible refine (HF3.out _ HB10.out).mono ?_); rintro e' W11 ⟨rfl, hB11⟩; have HB11 := Lib.hid (HB10.out.trans (hB11.mono HB10.out.size)); clear hB11)))
       clear c0 c1 c2 HF1 HF2 HF3 HB9 HB10
       have HB11w := Lib.hid (HBw.out.trans (HB11.out.mono HBw.out.size))
       have HX13 := Lib.hid (fun W (h : Below W11.heap.size W11 W) => And.intro (HCA.out W (HB11w.out.trans (h.mono HB11w.out.size))).1 (And.intro (HCA.out W (HB11w.out.trans (h.mono HB11w.out.size))).2 (And.intro (HCX.out W (HB11w.out.trans (h.mono HB11w.out.size))).2 (conv_str (c := x.vc) (HX.out W (HB11w.out.trans (h.mono HB11w.out.size))).val))))
       obtain ⟨s1, hs1⟩ : ∃ s : ByteArray, (⟨x.val.toArray⟩ : ByteArray) = s := ⟨_, rfl⟩
       have hcc : (s1.toList == s1.toList) = true := by simp
       rw [hs1] at HX13
       clear hs1 HCA
       refine wp_region_held_drew (S := fun W => W.cell? ⟨(ada.add (ka * 2)).block, (ada.add (ka * 2)).off + 1, none⟩ = some (.slice yA x.val.length yc) ∧ (convert 37 9 (.slice yA x.val.length yc)).run Tryz.prog W = .ok (.string s1) W ∧ W.cell? ⟨(ad.add (k * 2)).block, (ad.add (k * 2)).off + 1, none⟩ = some (.slice x.vA x.val.length x.vc) ∧ (convert 37 9 (.slice x.vA x.val.length x.vc)).run Tryz.prog W = .ok (.string s1) W) (by kernel_rfl) (HX13.out _ (Below.refl _ W11).drew) (fun hHeld => ?_)
       refine tZ 0 ?_; refine tZ 1 ?_; refine tZ 2 ?_; refine tZ 3 ?_; refine tZ 4 ?_; refine tZ 5 ?_; refine tZ 6 ?_; refine tZ 7 ?_; refine tZ 8 ?_; refine tZ 9 ?_; refine tZ 10 ?_; refine tZ 11 ?_; refine tZ 12 ?_; refine tZ 13 ?_; refine tZ 14 ?_; refine tZ 15 ?_; refine tZ 16 ?_; refine tZ 17 ?_
       refine wpAnyH_done (by decide +kernel) ?_ _
       clear hHeld HX13 hcc
       go_upto_region 14 with (fail)
       have HBKE := Lib.hid (HBK.out.trans (HB11.out.mono HBK.out.size))
       clear HX HCX HB HCN HA HIP hxk HLB HZK
       generalize cntL (b.map IV.it) (wantB (a.map IV.it) (b.map IV.it)) k = cn at *
       refine wp_region_held_drew (S := fun _ => True) (by kernel_rfl) trivial (fun hHeld => ?_)
       refine tZ 0 ?_; refine tZ 1 ?_; refine tZ 2 ?_; refine tZ 3 ?_; refine tZ 4 ?_; refine tZ 5 ?_; refine tZ 6 ?_; refine pZ 7 ?_; refine pZ 8 ?_; refine pZ 9 ?_; refine pZ 10 ?_; refine pZ 11 ?_; refine pZ 12 ?_; refine pZ 13 ?_; refine pZ 14 ?_; refine pZ 15 ?_; refine pZ 16 ?_; refine pZ 17 ?_; refine pZ 18 ?_; refine pZ 19 ?_; refine tZ 20 ?_; refine tZ 21 ?_
       refine wpAnyH_done (by decide +kernel) ?_ _
       clear hHeld
       go_wp2
       go_roundg (b.length - (k + 1))
       case measure => have := HGK.out; omega
       case rel => exact ⟨k + 1, by omega, rfl, by rw [HC0.out], by go_num, HBKE.out.drew.drew⟩
      ·have hwt : wantB (a.map IV.it) (b.map IV.it) x.key = true := by
        unfold wantB; rw [h3', HLB.out]
        exact decide_eq_true fun e => hv (Option.some.inj e)
       have HC1 : Hid (cntL (b.map IV.it) (wantB (a.map IV.it) (b.map IV.it)) (k + 1) = cntL (b.map IV.it) (wantB (a.map IV.it) (b.map IV.it)) k + 1) := by
        unfold Hid
        rw [HCN.out, hwt]
        simp
       obtain ⟨m, em, hml, hme⟩ := put_find (La := a.map IV.it) (Lb := b.map IV.it) HZK.out HLB.out (by rw [h3']; exact fun e => hv (Option.some.inj e))
       have hml2 : m < lp.length := by have := congrArg List.length HMP.out; rw [List.length_map] at this; omega
       have hme2 : lp[m].it = (x.key, x.val) := by
        have h5 : (lp.map IV.it)[m]'(by rw [List.length_map]; exact hml2) = lp[m].it := List.getElem_map ..
        rw [← h5, ← hme]
        simp only [HMP.out]
       have HF3 := Lib.hid (fun W (h : Below wr.heap.size wr W) => show Calls Tryz.prog 16 #[.slice Ap lp.length cp, .slice x.kA x.key.length x.kc] W fun e w' => e = .returned (.int .i64 (m : Int)) ∧ Below W.heap.size W w' by
        have h8 := HBw.out.trans (h.mono HBw.out.size)
        have := findR_any lp Ap cp x.key x.kA x.kc (by have := HLP.out; omega) W (HIP.out W (HB4k.out.trans (h.mono HB4k.out.size))).rd (HX.out W h8).key
        rw [HMP.out, em] at this; exact this)
       have hm0 : (0 : Int) ≤ (m : Int) := by omega
       have hm1 : (m : Int) < (lp.length : Int) := by omega
       obtain ⟨adp, hAp, -, -⟩ := its_at (HIP.out _ HB4k.out) hml2
       have hpv : lp[m].val = x.val := congrArg Prod.snd hme2
       have HCP : Hid (∀ W, Below W4.heap.size W4 W → W.cell? ⟨(adp.add (m * 2)).block, (adp.add (m * 2)).off + 1, none⟩ = some (.slice lp[m].vA x.val.length lp[m].vc) ∧ (convert 37 9 (.slice lp[m].vA x.val.length lp[m].vc)).run Tryz.prog W = .ok (.string ⟨x.val.toArray⟩) W) := fun W h => by
        obtain ⟨ad', e, -, h1⟩ := its_at (HIP.out W h) hml2
        obtain rfl := Option.some.inj (hAp.symm.trans e)
        have h2 := conv_str (c := lp[m].vc) ((HIP.out W h).2 lp[m] (List.getElem_mem hml2)).val.bytes
        rw [hpv] at h1 h2
        exact ⟨h1, h2⟩
       subst hAp
       generalize lp[m].vA = pA at *
       generalize lp[m].vc = pc at *
       clear em hml hme hme2 hpv hml2
       have HV := Lib.hid hv
       clear HFA HFB hwt h3' hv
       go_upto_region 13 with (go_at_call 16; go_must (first
        |((with_reducible refine HF1.out.mono ?_); rintro e' W9 ⟨rfl, hB9⟩; obtain ⟨c1, -⟩ := HCX.out W9 (HBw.out.trans (hB9.mono HBw.out.size)); have HB9 := Lib.hid hB9; clear hB9)
        |((with_reducible refine (HF2.out _ HB9.out).mono ?_); rintro e' W10 ⟨rfl, hB10⟩; have HB10 := Lib.hid (HB9.out.trans (hB10.mono HB9.out.size)); obtain ⟨c2, -⟩ := HCX.out W10 (HBw.out.trans (HB10.out.mono HBw.out.size)); clear hB10)
        |((with_reducible refine (HF3.out _ HB10.out).mono ?_); rintro e' W11 ⟨rfl, hB11⟩; have HB11 := Lib.hid (HB10.out.trans (hB11.mono HB10.out.size)); clear hB11)))
       clear c0 c1 c2 HF1 HF2 HF3 HB9 HB10
       have HB11w := Lib.hid (HBw.out.trans (HB11.out.mono HBw.out.size))
       have HB411 := Lib.hid (HB4k.out.trans (HB11.out.mono HB4k.out.size))
       have HX13 := Lib.hid (fun W (h : Below W11.heap.size W11 W) => And.intro (HCA.out W (HB11w.out.trans (h.mono HB11w.out.size))).1 (And.intro (HCA.out W (HB11w.out.trans (h.mono HB11w.out.size))).2 (And.intro (HCX.out W (HB11w.out.trans (h.mono HB11w.out.size))).2 (conv_str (c := x.vc) (HX.out W (HB11w.out.trans (h.mono HB11w.out.size))).val))))
       obtain ⟨s1, hs1⟩ : ∃ s : ByteArray, (⟨yv.toArray⟩ : ByteArray) = s := ⟨_, rfl⟩
       obtain ⟨s2, hs2⟩ : ∃ s : ByteArray, (⟨x.val.toArray⟩ : ByteArray) = s := ⟨_, rfl⟩
       have hcc : (s1.toList == s2.toList) = false := by
        rw [← hs1, ← hs2, mk_beq]; exact decide_eq_false HV.out
       rw [hs1, hs2] at HX13
       clear hs1 hs2 HCA
       refine wp_region_held_drew (S := fun W => W.cell? ⟨(ada.add (ka * 2)).block, (ada.add (ka * 2)).off + 1, none⟩ = some (.slice yA yv.length yc) ∧ (convert 37 9 (.slice yA yv.length yc)).run Tryz.prog W = .ok (.string s1) W ∧ W.cell? ⟨(ad.add (k * 2)).block, (ad.add (k * 2)).off + 1, none⟩ = some (.slice x.vA x.val.length x.vc) ∧ (convert 37 9 (.slice x.vA x.val.length x.vc)).run Tryz.prog W = .ok (.string s2) W) (by kernel_rfl) (HX13.out _ (Below.refl _ W11).drew) (fun hHeld => ?_)
       refine tZ 0 ?_; refine tZ 1 ?_; refine tZ 2 ?_; refine tZ 3 ?_; refine tZ 4 ?_; refine tZ 5 ?_; refine tZ 6 ?_; refine tZ 7 ?_; refine tZ 8 ?_; refine tZ 9 ?_; refine tZ 10 ?_; refine tZ 11 ?_; refine tZ 12 ?_; refine tZ 13 ?_; refine tZ 14 ?_; refine tZ 15 ?_; refine tZ 16 ?_; refine tZ 17 ?_
       refine wpAnyH_done (by decide +kernel) ?_ _
       clear hHeld HX13 hcc
       go_upto_region 14 with (fail)
       have HX14 := Lib.hid (fun W (h : Below W11.heap.size W11 W) => And.intro (HCP.out W (HB411.out.trans (h.mono HB411.out.size))) (And.intro (HCX.out W (HB11w.out.trans (h.mono HB11w.out.size))).2 (conv_str (c := x.vc) (HX.out W (HB11w.out.trans (h.mono HB11w.out.size))).val)))
       have HBKE := Lib.hid (HBK.out.trans (HB11.out.mono HBK.out.size))
       have hn0 : IntKind.i64.wrap (((cntL (b.map IV.it) (wantB (a.map IV.it) (b.map IV.it)) k : Nat) : Int) + 1) = ((cntL (b.map IV.it) (wantB (a.map IV.it) (b.map IV.it)) k : Nat) : Int) + 1 := IntWalk.i64_in _ (by have := HCL.out; have := H3B.out; omega)
       clear HX HCX HCP HB HCN HA HIP hxk HLB HZK
       generalize cntL (b.map IV.it) (wantB (a.map IV.it) (b.map IV.it)) k = cn at *
       generalize x.vA = xA at *
       generalize x.vc = xc at *
       generalize x.val = xv at *
       obtain ⟨s1, hs1⟩ : ∃ s : ByteArray, (⟨xv.toArray⟩ : ByteArray) = s := ⟨_, rfl⟩
       rw [hs1] at HX14
       have hcc : (s1.toList == s1.toList) = true := by simp
       refine wp_region_held_drew (S := fun W => (W.cell? ⟨(adp.add (m * 2)).block, (adp.add (m * 2)).off + 1, none⟩ = some (.slice pA xv.length pc) ∧ (convert 37 9 (.slice pA xv.length pc)).run Tryz.prog W = .ok (.string s1) W) ∧ W.cell? ⟨(ad.add (k * 2)).block, (ad.add (k * 2)).off + 1, none⟩ = some (.slice xA xv.length xc) ∧ (convert 37 9 (.slice xA xv.length xc)).run Tryz.prog W = .ok (.string s1) W) (by kernel_rfl) (HX14.out _ (Below.refl _ W11).drew.drew) (fun hHeld => ?_)
       refine tZ 0 ?_; refine tZ 1 ?_; refine tZ 2 ?_; refine tZ 3 ?_; refine tZ 4 ?_; refine tZ 5 ?_; refine tZ 6 ?_; refine tZ 7 ?_; refine tZ 8 ?_; refine tZ 9 ?_; refine tZ 10 ?_; refine tZ 11 ?_; refine tZ 12 ?_; refine tZ 13 ?_; refine tZ 14 ?_; refine tZ 15 ?_; refine tZ 16 ?_; refine tZ 17 ?_; refine tZ 18 ?_; refine tZ 19 ?_; refine tZ 20 ?_; refine tZ 21 ?_
       refine wpAnyH_done (by decide +kernel) ?_ _
       clear hHeld HX14 hs1
       go_wp2
       go_roundg (b.length - (k + 1))
       case measure => have := HGK.out; omega
       case rel => exact ⟨k + 1, by omega, rfl, by rw [HC1.out]; rfl, by go_num, HBKE.out.drew.drew⟩
     ·have hwt : wantB (a.map IV.it) (b.map IV.it) x.key = true := by unfold wantB; rw [h3, HLB.out]; simp
      have HC1 : Hid (cntL (b.map IV.it) (wantB (a.map IV.it) (b.map IV.it)) (k + 1) = cntL (b.map IV.it) (wantB (a.map IV.it) (b.map IV.it)) k + 1) := by
       unfold Hid
       rw [HCN.out, hwt]
       simp
      obtain ⟨m, em, hml, hme⟩ := put_find (La := a.map IV.it) (Lb := b.map IV.it) HZK.out HLB.out (by rw [h3]; simp)
      have HF2 := Lib.hid (fun W (h : Below wr.heap.size wr W) => show Calls Tryz.prog 16 #[.slice Aa a.length ca, .slice x.kA x.key.length x.kc] W fun e w' => e = .returned (.int .i64 (-1)) ∧ Below W.heap.size W w' by
       have h8 := HBw.out.trans (h.mono HBw.out.size)
       have := findR_any a Aa ca x.key x.kA x.kc (by have := H3A.out; omega) W (HA.out W h8) (HX.out W h8).key
       rw [e1] at this; exact this)
      have hml2 : m < lp.length := by have := congrArg List.length HMP.out; rw [List.length_map] at this; omega
      have hme2 : lp[m].it = (x.key, x.val) := by
       have h5 : (lp.map IV.it)[m]'(by rw [List.length_map]; exact hml2) = lp[m].it := List.getElem_map ..
       rw [← h5, ← hme]
       simp only [HMP.out]
      have HF3 := Lib.hid (fun W (h : Below wr.heap.size wr W) => show Calls Tryz.prog 16 #[.slice Ap lp.length cp, .slice x.kA x.key.length x.kc] W fun e w' => e = .returned (.int .i64 (m : Int)) ∧ Below W.heap.size W w' by
       have h8 := HBw.out.trans (h.mono HBw.out.size)
       have := findR_any lp Ap cp x.key x.kA x.kc (by have := HLP.out; omega) W (HIP.out W (HB4k.out.trans (h.mono HB4k.out.size))).rd (HX.out W h8).key
       rw [HMP.out, em] at this; exact this)
      have hm0 : (0 : Int) ≤ (m : Int) := by omega
      have hm1 : (m : Int) < (lp.length : Int) := by omega
      obtain ⟨adp, hAp, -, -⟩ := its_at (HIP.out _ HB4k.out) hml2
      have hpv : lp[m].val = x.val := congrArg Prod.snd hme2
      have HCP : Hid (∀ W, Below W4.heap.size W4 W → W.cell? ⟨(adp.add (m * 2)).block, (adp.add (m * 2)).off + 1, none⟩ = some (.slice lp[m].vA x.val.length lp[m].vc) ∧ (convert 37 9 (.slice lp[m].vA x.val.length lp[m].vc)).run Tryz.prog W = .ok (.string ⟨x.val.toArray⟩) W) := fun W h => by
       obtain ⟨ad', e, -, h1⟩ := its_at (HIP.out W h) hml2
       obtain rfl := Option.some.inj (hAp.symm.trans e)
       have h2 := conv_str (c := lp[m].vc) ((HIP.out W h).2 lp[m] (List.getElem_mem hml2)).val.bytes
       rw [hpv] at h1 h2
       exact ⟨h1, h2⟩
      subst hAp
      generalize lp[m].vA = pA at *
      generalize lp[m].vc = pc at *
      clear em hml hme hme2 hpv hml2
      clear HFA HFB hwt h3 e1
      go_upto_region 13 with (go_at_call 16; go_must (first
       |((with_reducible refine HF1.out.mono ?_); rintro e' W9 ⟨rfl, hB9⟩; obtain ⟨c1, -⟩ := HCX.out W9 (HBw.out.trans (hB9.mono HBw.out.size)); have HB9 := Lib.hid hB9; clear hB9)
       |((with_reducible refine (HF2.out _ HB9.out).mono ?_); rintro e' W10 ⟨rfl, hB10⟩; have HB10 := Lib.hid (HB9.out.trans (hB10.mono HB9.out.size)); obtain ⟨c2, -⟩ := HCX.out W10 (HBw.out.trans (HB10.out.mono HBw.out.size)); clear hB10)
       |((with_reducible refine (HF3.out _ HB10.out).mono ?_); rintro e' W11 ⟨rfl, hB11⟩; have HB11 := Lib.hid (HB10.out.trans (hB11.mono HB10.out.size)); clear hB11)))
      clear c0 c1 c2 HF1 HF2 HF3 HB9 HB10
      have HB11w := Lib.hid (HBw.out.trans (HB11.out.mono HBw.out.size))
      have HB411 := Lib.hid (HB4k.out.trans (HB11.out.mono HB4k.out.size))
      refine wp_region_held_drew (S := fun _ => True) (by kernel_rfl) trivial (fun hHeld => ?_)
      refine tZ 0 ?_; refine tZ 1 ?_; refine tZ 2 ?_; refine pZ 3 ?_; refine pZ 4 ?_; refine pZ 5 ?_; refine pZ 6 ?_; refine pZ 7 ?_; refine pZ 8 ?_; refine pZ 9 ?_; refine pZ 10 ?_; refine pZ 11 ?_; refine pZ 12 ?_; refine pZ 13 ?_; refine pZ 14 ?_; refine pZ 15 ?_; refine tZ 16 ?_; refine tZ 17 ?_
      refine wpAnyH_done (by decide +kernel) ?_ _
      clear hHeld
      go_upto_region 14 with (fail)
      have HX14 := Lib.hid (fun W (h : Below W11.heap.size W11 W) => And.intro (HCP.out W (HB411.out.trans (h.mono HB411.out.size))) (And.intro (HCX.out W (HB11w.out.trans (h.mono HB11w.out.size))).2 (conv_str (c := x.vc) (HX.out W (HB11w.out.trans (h.mono HB11w.out.size))).val)))
      have HBKE := Lib.hid (HBK.out.trans (HB11.out.mono HBK.out.size))
      have hn0 : IntKind.i64.wrap (((cntL (b.map IV.it) (wantB (a.map IV.it) (b.map IV.it)) k : Nat) : Int) + 1) = ((cntL (b.map IV.it) (wantB (a.map IV.it) (b.map IV.it)) k : Nat) : Int) + 1 := IntWalk.i64_in _ (by have := HCL.out; have := H3B.out; omega)
      clear HX HCX HCP HB HCN HA HIP hxk HLB HZK
      generalize cntL (b.map IV.it) (wantB (a.map IV.it) (b.map IV.it)) k = cn at *
      generalize x.vA = xA at *
      generalize x.vc = xc at *
      generalize x.val = xv at *
      obtain ⟨s1, hs1⟩ : ∃ s : ByteArray, (⟨xv.toArray⟩ : ByteArray) = s := ⟨_, rfl⟩
      rw [hs1] at HX14
      have hcc : (s1.toList == s1.toList) = true := by simp
      refine wp_region_held_drew (S := fun W => (W.cell? ⟨(adp.add (m * 2)).block, (adp.add (m * 2)).off + 1, none⟩ = some (.slice pA xv.length pc) ∧ (convert 37 9 (.slice pA xv.length pc)).run Tryz.prog W = .ok (.string s1) W) ∧ W.cell? ⟨(ad.add (k * 2)).block, (ad.add (k * 2)).off + 1, none⟩ = some (.slice xA xv.length xc) ∧ (convert 37 9 (.slice xA xv.length xc)).run Tryz.prog W = .ok (.string s1) W) (by kernel_rfl) (HX14.out _ (Below.refl _ W11).drew.drew) (fun hHeld => ?_)
      refine tZ 0 ?_; refine tZ 1 ?_; refine tZ 2 ?_; refine tZ 3 ?_; refine tZ 4 ?_; refine tZ 5 ?_; refine tZ 6 ?_; refine tZ 7 ?_; refine tZ 8 ?_; refine tZ 9 ?_; refine tZ 10 ?_; refine tZ 11 ?_; refine tZ 12 ?_; refine tZ 13 ?_; refine tZ 14 ?_; refine tZ 15 ?_; refine tZ 16 ?_; refine tZ 17 ?_; refine tZ 18 ?_; refine tZ 19 ?_; refine tZ 20 ?_; refine tZ 21 ?_
      refine wpAnyH_done (by decide +kernel) ?_ _
      clear hHeld HX14 hs1
      go_wp2
      go_roundg (b.length - (k + 1))
      case measure => have := HGK.out; omega
      case rel => exact ⟨k + 1, by omega, rfl, by rw [HC1.out]; rfl, by go_num, HBKE.out.drew.drew⟩
    ·have HFI := Lib.hid hfi
     have n1 : ¬ findI (b.map IV.it) x.key = (k : Int) := hfi
     have HC0 : Hid (cntL (b.map IV.it) (wantB (a.map IV.it) (b.map IV.it)) (k + 1) = cntL (b.map IV.it) (wantB (a.map IV.it) (b.map IV.it)) k) := by
      unfold Hid
      rw [HCN.out]
      simp [hfi]
     clear hfi HCN
     generalize findI (b.map IV.it) x.key = fi at *
     go_wp2_with (go_at_call 16; go_must ((with_reducible refine HF1.out.mono ?_); rintro e' W9 ⟨rfl, hB9⟩; have HB9 := Lib.hid (HBK.out.trans (hB9.mono HBK.out.size)); clear hB9))
     go_roundg (b.length - (k + 1))
     case measure => have := HGK.out; omega
     case rel => exact ⟨k + 1, by omega, rfl, by rw [HC0.out], by go_num, HB9.out⟩
   ·obtain rfl : k = b.length := by omega
    rw [← HNP.out]
    have HBe := Lib.hid (HW5.out.trans (HBK.out.mono HW5.out.size))
    have HB4e := Lib.hid (HB5.out.trans (HBK.out.mono HB5.out.size))
    clear HCN HCL
    obtain ⟨W6, h6⟩ : ∃ W, W = wr := ⟨_, rfl⟩
    subst h6
    go_wp2_with fail
    go_loopg [12, 13] a.length (fun g n i wr => ∃ k : Nat, k ≤ a.length ∧ g = a.length - k ∧ n = .int .i64 (cntL (a.map IV.it) (fun z => (lastIt (b.map IV.it) z).isNone) k : Nat) ∧ i = .int .i64 (k : Int) ∧ Below W6.heap.size W6 wr)
    case atStart => exact ⟨0, Nat.zero_le _, rfl, rfl, rfl, Below.refl _ _⟩
    case round =>
     obtain ⟨k, hk, hgk, rfl, rfl, hBk⟩ := hrel
     have HGK := Lib.hid hgk
     have HBK := Lib.hid hBk
     have HCL := Lib.hid (cntL_le (a.map IV.it) (fun z => (lastIt (b.map IV.it) z).isNone) k)
     have HCN := Lib.hid (cntL_next (a.map IV.it) (fun z => (lastIt (b.map IV.it) z).isNone) k)
     clear hgk hBk
     by_cases hlt : k < a.length
     ·have b0 : (0 : Int) ≤ (k : Int) := by omega
      have b1 : (k : Int) < (a.length : Int) := by omega
      have hk0 : IntKind.i64.wrap ((k : Int) + 1) = (k : Int) + 1 := IntWalk.i64_in _ (by have := H3A.out; omega)
      have HBw := Lib.hid (HBe.out.trans (HBK.out.mono HBe.out.size))
      obtain ⟨ad, hA, -, -⟩ := itsR_at (HA.out _ HBw.out) hlt
      have hLk : (a.map IV.it).getD k ([], []) = (a[k].key, a[k].val) := it_get a hlt
      have HFB := Lib.hid (find_last (b.map IV.it) a[k].key)
      rw [hLk] at HCN
      unfold isLast at HCN
      rw [hLk] at HCN
      have HX := Lib.hid (fun W (h : Below w.heap.size w W) => (HA.out W h).2 a[k] (List.getElem_mem hlt))
      have HCX : Hid (∀ W, Below w.heap.size w W → W.cell? (ad.add (k * 2)) = some (.slice a[k].kA a[k].key.length a[k].kc)) := fun W h => by
       obtain ⟨ad', e, h0, -⟩ := itsR_at (HA.out W h) hlt
       obtain rfl := Option.some.inj (hA.symm.trans e)
       exact h0
      subst hA
      clear hLk
      generalize a[k] = x at *
      have c0 := HCX.out wr HBw.out
      have HF1 := Lib.hid (findR_any a (some ad) ca x.key x.kA x.kc (by have := H3A.out; omega) wr (HA.out _ HBw.out) (HX.out _ HBw.out).key)
      have HF2 := Lib.hid (fun W (h : Below wr.heap.size wr W) => findR_any b Ab cb x.key x.kA x.kc (by have := H3B.out; omega) W (HB.out W (HBw.out.trans (h.mono HBw.out.size))) (HX.out W (HBw.out.trans (h.mono HBw.out.size))).key)
      by_cases hfi : findI (a.map IV.it) x.key = (k : Int)
      ·rw [hfi] at HF1 HCN
       rcases HFB.out with ⟨kb, e1, _, _, h3⟩ | ⟨e1, h3⟩
       ·have hC0 : Hid (cntL (a.map IV.it) (fun z => (lastIt (b.map IV.it) z).isNone) (k + 1) = cntL (a.map IV.it) (fun z => (lastIt (b.map IV.it) z).isNone) k) := by
         unfold Hid
         rw [HCN.out]
         simp [h3]
        rw [e1] at HF2
        have hkb : ¬ (kb : Int) < 0 := by omega
        clear HFB h3 e1 HCN hfi
        generalize cntL (a.map IV.it) (fun z => (lastIt (b.map IV.it) z).isNone) k = cn at *
        go_wp2_with (go_at_call 16; go_must (first
         |((with_reducible refine HF1.out.mono ?_); rintro e' W9 ⟨rfl, hB9⟩; have c1 := HCX.out W9 (HBw.out.trans (hB9.mono HBw.out.size)); have HB9 := Lib.hid hB9; clear hB9)
         |((with_reducible refine (HF2.out _ HB9.out).mono ?_); rintro e' W10 ⟨rfl, hB10⟩; have HB10 := Lib.hid (HBK.out.trans ((HB9.out.trans (hB10.mono HB9.out.size)).mono HBK.out.size)); clear hB10)))
        go_roundg (a.length - (k + 1))
        case measure => have := HGK.out; omega
        case rel => exact ⟨k + 1, by omega, rfl, by rw [hC0.out], by go_num, HB10.out⟩
       ·have hC1 : Hid (cntL (a.map IV.it) (fun z => (lastIt (b.map IV.it) z).isNone) (k + 1) = cntL (a.map IV.it) (fun z => (lastIt (b.map IV.it) z).isNone) k + 1) := by
         unfold Hid
         rw [HCN.out]
         simp [h3]
        rw [e1] at HF2
        have hn0 : IntKind.i64.wrap (((cntL (a.map IV.it) (fun z => (lastIt (b.map IV.it) z).isNone) k : Nat) : Int) + 1) = ((cntL (a.map IV.it) (fun z => (lastIt (b.map IV.it) z).isNone) k : Nat) : Int) + 1 := IntWalk.i64_in _ (by have := HCL.out; have := H3A.out; omega)
        clear HFB h3 e1 HCN hfi
        generalize cntL (a.map IV.it) (fun z => (lastIt (b.map IV.it) z).isNone) k = cn at *
        go_wp2_with (go_at_call 16; go_must (first
         |((with_reducible refine HF1.out.mono ?_); rintro e' W9 ⟨rfl, hB9⟩; have c1 := HCX.out W9 (HBw.out.trans (hB9.mono HBw.out.size)); have HB9 := Lib.hid hB9; clear hB9)
         |((with_reducible refine (HF2.out _ HB9.out).mono ?_); rintro e' W10 ⟨rfl, hB10⟩; have HB10 := Lib.hid (HBK.out.trans ((HB9.out.trans (hB10.mono HB9.out.size)).mono HBK.out.size)); clear hB10)))
        go_roundg (a.length - (k + 1))
        case measure => have := HGK.out; omega
        case rel => exact ⟨k + 1, by omega, rfl, by rw [hC1.out]; rfl, by go_num, HB10.out⟩
      ·have hC0 : Hid (cntL (a.map IV.it) (fun z => (lastIt (b.map IV.it) z).isNone) (k + 1) = cntL (a.map IV.it) (fun z => (lastIt (b.map IV.it) z).isNone) k) := by
        unfold Hid
        rw [HCN.out]
        simp [hfi]
       clear HCN HF2 HFB
       generalize findI (a.map IV.it) x.key = fi at *
       go_wp2_with (go_at_call 16; go_must ((with_reducible refine HF1.out.mono ?_); rintro e' W9 ⟨rfl, hB9⟩; have HB9 := Lib.hid (HBK.out.trans (hB9.mono HBK.out.size)); clear hB9))
       go_roundg (a.length - (k + 1))
       case measure => have := HGK.out; omega
       case rel => exact ⟨k + 1, by omega, rfl, by rw [hC0.out], by go_num, HB9.out⟩
     ·obtain rfl : k = a.length := by omega
      rw [← HNG.out]
      have HBf := Lib.hid (HBe.out.trans (HBK.out.mono HBe.out.size))
      have HB4f := Lib.hid (HB4e.out.trans (HBK.out.mono HB4e.out.size))
      clear HCN HCL
      obtain ⟨W7, h7⟩ : ∃ W, W = wr := ⟨_, rfl⟩
      subst h7
      have HPW : Hid ((lg.map KV.key).Pairwise (fun a b => bl a b = true)) := by unfold Hid; rw [HMG.out]; exact HP1.out.filter _
      have HMEM : Hid (∀ x ∈ lg, x.key ∈ z1 ∧ lastIt (b.map IV.it) x.key = none) := fun x hx => by
       have h1 := List.mem_map_of_mem (f := KV.key) hx
       rw [HMG.out, List.mem_filter] at h1
       exact ⟨h1.1, Option.isNone_iff_eq_none.1 h1.2⟩
      go_wp2_with fail
      go_loopg [14] lg.length (fun g i wr => ∃ k : Nat, k ≤ lg.length ∧ g = lg.length - k ∧ i = .int .i64 (k : Int) ∧ Below W7.heap.size W7 wr)
      case atStart => exact ⟨0, Nat.zero_le _, rfl, rfl, Below.refl _ _⟩
      case round =>
       obtain ⟨k, hk, hgk, rfl, hBk⟩ := hrel
       have HGK := Lib.hid hgk
       have HBK := Lib.hid hBk
       clear hgk hBk
       by_cases hlt : k < lg.length
       ·have b0 : (0 : Int) ≤ (k : Int) := by omega
        have b1 : (k : Int) < (lg.length : Int) := by omega
        have hk0 : IntKind.i64.wrap ((k : Int) + 1) = (k : Int) + 1 := IntWalk.i64_in _ (by have := HLG.out; omega)
        have HBw := Lib.hid (HBf.out.trans (HBK.out.mono HBf.out.size))
        have HB4w := Lib.hid (HB4f.out.trans (HBK.out.mono HB4f.out.size))
        obtain ⟨ad, hA, -⟩ := ks_at (HIG.out _ HB4w.out) hlt
        obtain ⟨hz1, hz2⟩ := HMEM.out lg[k] (List.getElem_mem hlt)
        have hzs := (HZ1.out _).1 hz1
        obtain ⟨ka, eka⟩ : ∃ ka : Nat, findI (a.map IV.it) lg[k].key = (ka : Int) := by
         rcases find_last (a.map IV.it) lg[k].key with ⟨ka, e1, -⟩ | ⟨-, e⟩
         ·exact ⟨ka, e1⟩
         ·rw [e] at hzs; cases hzs
        have ekb : findI (b.map IV.it) lg[k].key = -1 := by
         rcases find_last (b.map IV.it) lg[k].key with ⟨kb, -, _, _, e⟩ | ⟨e, -⟩
         ·rw [hz2] at e; cases e
         ·exact e
        have hka : ¬ (ka : Int) < 0 := by omega
        have HGK2 := Lib.hid (fun W (h : Below W4.heap.size W4 W) => (HIG.out W h).2 lg[k] (List.getElem_mem hlt))
        have HCX : Hid (∀ W, Below W4.heap.size W4 W → W.cell? (ad.add k) = some (.slice lg[k].A lg[k].key.length lg[k].c)) := fun W h => by
         obtain ⟨ad', e, h0⟩ := ks_at (HIG.out W h) hlt
         obtain rfl := Option.some.inj (hA.symm.trans e)
         exact h0
        have HF1 := Lib.hid (fun W (h : Below wr.heap.size wr W) => show Calls Tryz.prog 16 #[.slice Aa a.length ca, .slice lg[k].A lg[k].key.length lg[k].c] W fun e w' => e = .returned (.int .i64 (ka : Int)) ∧ Below W.heap.size W w' by
         have := findR_any a Aa ca lg[k].key lg[k].A lg[k].c (by have := H3A.out; omega) W (HA.out W (HBw.out.trans (h.mono HBw.out.size))) (HGK2.out W (HB4w.out.trans (h.mono HB4w.out.size))).1.bytes
         rw [eka] at this; exact this)
        have HF2 := Lib.hid (fun W (h : Below wr.heap.size wr W) => show Calls Tryz.prog 16 #[.slice Ab b.length cb, .slice lg[k].A lg[k].key.length lg[k].c] W fun e w' => e = .returned (.int .i64 (-1)) ∧ Below W.heap.size W w' by
         have := findR_any b Ab cb lg[k].key lg[k].A lg[k].c (by have := H3B.out; omega) W (HB.out W (HBw.out.trans (h.mono HBw.out.size))) (HGK2.out W (HB4w.out.trans (h.mono HB4w.out.size))).1.bytes
         rw [ekb] at this; exact this)
        clear eka ekb hz1 hz2 hzs
        cases k with
        |zero =>
         subst hA
         generalize lg[0].A = gA at *
         generalize lg[0].c = gc at *
         generalize lg[0].key = gk at *
         have HS : Hid (∀ W, Below wr.heap.size wr W → W.cell? ad = some (.slice gA gk.length gc)) := fun W h => by
          have h1 := HCX.out W (HB4w.out.trans (h.mono HB4w.out.size))
          rwa [show ad.add 0 = ad by cases ad; simp [Addr.add]] at h1
         go_upto_region 27 with (fail)
         refine wp_region_held_drew (S := fun W => W.cell? ad = some (.slice gA gk.length gc)) (by kernel_rfl) (HS.out _ (Below.refl _ wr).drew) (fun hHeld => ?_)
         refine tZ 0 ?_; refine tZ 1 ?_; refine tZ 2 ?_; refine tZ 3 ?_; refine tZ 4 ?_
         refine wpAnyH_ready (rs := [5]) (by decide +kernel) (by simp) ?_
         refine AllReadyH.cons rfl (fun K hK => ?_) AllReadyH.nil
         (try simp only [jA, jB, jC])
         go_simp
         go_at_call 16; refine (HF1.out _ (Below.refl _ wr).drew).mono ?_; rintro e' W9 ⟨rfl, hB9⟩; have HB9 := Lib.hid ((Below.refl wr.heap.size wr).drew.trans (hB9.mono (Below.refl wr.heap.size wr).drew.size)); clear hB9
         refine hK.out _ _ ?_ (fun hHeld => ?_)
         focus ((try dsimp only); exact HS.out _ HB9.out; done)
         clear hK K
         (try simp only [Act.put, jA, jB, jC, jD, jE, jF])
         refine tZ 6 ?_; refine tZ 7 ?_; refine tZ 8 ?_; refine tZ 9 ?_; refine tZ 10 ?_; refine tZ 11 ?_; refine tZ 12 ?_
         refine wpAnyH_ready (rs := [13]) (by decide +kernel) (by simp) ?_
         refine AllReadyH.cons rfl (fun K hK => ?_) AllReadyH.nil
         (try simp only [jA, jB, jC])
         go_simp
         go_at_call 16; refine (HF2.out _ HB9.out).mono ?_; rintro e' W10 ⟨rfl, hB10⟩; have HB10 := Lib.hid (HB9.out.trans (hB10.mono HB9.out.size)); clear hB10
         refine hK.out _ _ ?_ (fun hHeld => ?_)
         focus ((try dsimp only); exact HS.out _ HB10.out; done)
         clear hK K
         (try simp only [Act.put, jA, jB, jC, jD, jE, jF])
         refine tZ 14 ?_; refine tZ 15 ?_; refine tZ 16 ?_; refine tZ 17 ?_; refine tZ 18 ?_; refine tZ 19 ?_; refine pZ 20 ?_; refine pZ 21 ?_; refine pZ 22 ?_; refine pZ 23 ?_; refine pZ 24 ?_; refine pZ 25 ?_; refine pZ 26 ?_; refine pZ 27 ?_; refine pZ 28 ?_; refine pZ 29 ?_; refine pZ 30 ?_; refine pZ 31 ?_; refine tZ 32 ?_; refine tZ 33 ?_
         refine wpAnyH_done (by decide +kernel) ?_ _
         have HBN := Lib.hid (HBK.out.trans (HB10.out.mono HBK.out.size))
         clear hHeld HS
         go_wp2
         go_roundg (lg.length - 1)
         case measure => have := HGK.out; omega
         case rel => exact ⟨1, by omega, rfl, rfl, HBN.out⟩
        |succ j =>
         have hlj : j < lg.length := by omega
         have hjl : bl lg[j].key lg[j + 1].key = true := by
          have := List.pairwise_iff_getElem.1 HPW.out j (j + 1) (by simpa using hlj) (by simpa using hlt) (by omega)
          rw [List.getElem_map, List.getElem_map] at this
          exact this
         have HCJ : Hid (∀ W, Below W4.heap.size W4 W → W.cell? (ad.add j) = some (.slice lg[j].A lg[j].key.length lg[j].c)) := fun W h => by
          obtain ⟨ad', e, h0⟩ := ks_at (HIG.out W h) hlj
          obtain rfl := Option.some.inj (hA.symm.trans e)
          exact h0
         have HGJ := Lib.hid (fun W (h : Below W4.heap.size W4 W) => (HIG.out W h).2 lg[j] (List.getElem_mem hlj))
         subst hA
         have HS := Lib.hid (fun W (h : Below wr.heap.size wr W) => And.intro (HCX.out W (HB4w.out.trans (h.mono HB4w.out.size))) (And.intro (conv_str (c := lg[j + 1].c) (HGK2.out W (HB4w.out.trans (h.mono HB4w.out.size))).1.bytes) (And.intro (HCJ.out W (HB4w.out.trans (h.mono HB4w.out.size))) (conv_str (c := lg[j].c) (HGJ.out W (HB4w.out.trans (h.mono HB4w.out.size))).1.bytes))))
         clear HCX HCJ HGJ HGK2
         generalize lg[j + 1].A = gA at *
         generalize lg[j + 1].c = gc at *
         generalize lg[j + 1].key = gk at *
         generalize lg[j].A = pA at *
         generalize lg[j].c = pc at *
         generalize lg[j].key = pk at *
         obtain ⟨s2, hs2⟩ : ∃ s : ByteArray, (⟨gk.toArray⟩ : ByteArray) = s := ⟨_, rfl⟩
         obtain ⟨s1, hs1⟩ : ∃ s : ByteArray, (⟨pk.toArray⟩ : ByteArray) = s := ⟨_, rfl⟩
         have hc : Go.Op.bytesLess s1.toList s2.toList = true := by rw [← hs1, ← hs2, bytes_list, bytes_list]; exact hjl
         rw [hs1, hs2] at HS
         clear hs1 hs2 hjl
         generalize hm : j + 1 = m at *
         have HM := Lib.hid hm
         have b3 : (0 : Int) ≤ (j : Int) := by omega
         have b4 : (j : Int) < (lg.length : Int) := by omega
         have b5 : (0 : Int) < (m : Int) := by omega
         have b6 : 0 < m := by omega
         have b7 : decide ((0 : Int) < (m : Int)) = true := decide_eq_true b5
         have hk1 : IntKind.i64.wrap ((m : Int) - 1) = (j : Int) := by rw [show (m : Int) - 1 = (j : Int) by omega]; exact IntWalk.i64_in _ (by have := HLG.out; omega)
         clear hm
         go_upto_region 27 with (fail)
         refine wp_region_held_drew (S := fun W => W.cell? (ad.add m) = some (.slice gA gk.length gc) ∧ (convert 37 9 (.slice gA gk.length gc)).run Tryz.prog W = .ok (.string s2) W ∧ W.cell? (ad.add j) = some (.slice pA pk.length pc) ∧ (convert 37 9 (.slice pA pk.length pc)).run Tryz.prog W = .ok (.string s1) W) (by kernel_rfl) (HS.out _ (Below.refl _ wr).drew) (fun hHeld => ?_)
         refine tZ 0 ?_; refine tZ 1 ?_; refine tZ 2 ?_; refine tZ 3 ?_; refine tZ 4 ?_
         refine wpAnyH_ready (rs := [5]) (by decide +kernel) (by simp) ?_
         refine AllReadyH.cons rfl (fun K hK => ?_) AllReadyH.nil
         (try simp only [jA, jB, jC])
         go_simp
         go_at_call 16; refine (HF1.out _ (Below.refl _ wr).drew).mono ?_; rintro e' W9 ⟨rfl, hB9⟩; have HB9 := Lib.hid ((Below.refl wr.heap.size wr).drew.trans (hB9.mono (Below.refl wr.heap.size wr).drew.size)); clear hB9
         refine hK.out _ _ ?_ (fun hHeld => ?_)
         focus ((try dsimp only); exact HS.out _ HB9.out; done)
         clear hK K
         (try simp only [Act.put, jA, jB, jC, jD, jE, jF])
         refine tZ 6 ?_; refine tZ 7 ?_; refine tZ 8 ?_; refine tZ 9 ?_; refine tZ 10 ?_; refine tZ 11 ?_; refine tZ 12 ?_
         refine wpAnyH_ready (rs := [13]) (by decide +kernel) (by simp) ?_
         refine AllReadyH.cons rfl (fun K hK => ?_) AllReadyH.nil
         (try simp only [jA, jB, jC])
         go_simp
         go_at_call 16; refine (HF2.out _ HB9.out).mono ?_; rintro e' W10 ⟨rfl, hB10⟩; have HB10 := Lib.hid (HB9.out.trans (hB10.mono HB9.out.size)); clear hB10
         refine hK.out _ _ ?_ (fun hHeld => ?_)
         focus ((try dsimp only); exact HS.out _ HB10.out; done)
         clear hK K
         (try simp only [Act.put, jA, jB, jC, jD, jE, jF])
         refine tZ 14 ?_; refine tZ 15 ?_; refine tZ 16 ?_; refine tZ 17 ?_; refine tZ 18 ?_; refine tZ 19 ?_; refine tZ 20 ?_; refine tZ 21 ?_; refine tZ 22 ?_; refine tZ 23 ?_; refine tZ 24 ?_; refine tZ 25 ?_; refine tZ 26 ?_; refine tZ 27 ?_; refine tZ 28 ?_; refine tZ 29 ?_; refine tZ 30 ?_; refine tZ 31 ?_; refine tZ 32 ?_; refine tZ 33 ?_
         refine wpAnyH_done (by decide +kernel) ?_ _
         have HBN := Lib.hid (HBK.out.trans (HB10.out.mono HBK.out.size))
         clear hHeld HS
         go_wp2
         go_roundg (lg.length - (m + 1))
         case measure => have := HGK.out; omega
         case rel => exact ⟨m + 1, by omega, rfl, by go_num, HBN.out⟩
       ·have b1 : ¬ (k : Int) < (lg.length : Int) := by omega
        have HBz := Lib.hid (HBf.out.trans (HBK.out.mono HBf.out.size))
        go_wp2
        go_ret
        exact ⟨rfl, HBz.out⟩
 ·have HC : Hid (a.length ≤ 300 → ¬ b.length ≤ 300) := fun h1 h2 => h3 ⟨h1, h2⟩
  clear h3
  by_cases ha3 : a.length ≤ 300
  ·have n1 : ¬ (300 : Int) < (a.length : Int) := by omega
   have n2 : (300 : Int) < (b.length : Int) := by have := HC.out ha3; omega
   go_wp2_with fail
   go_at_call 9
   refine (HAN.out _).mono ?_
   rintro e W2 ⟨rfl, hB2⟩
   go_wp2
   go_ret
   exact ⟨rfl, HB1.out.trans (hB2.mono HB1.out.size)⟩
  ·have n1 : (300 : Int) < (a.length : Int) := by omega
   go_wp2_with fail
   go_at_call 9
   refine (HAN.out _).mono ?_
   rintro e W2 ⟨rfl, hB2⟩
   go_wp2
   go_ret
   exact ⟨rfl, HB1.out.trans (hB2.mono HB1.out.size)⟩
end Go.Proofs.YtoiamjglklgcdaaGreat
