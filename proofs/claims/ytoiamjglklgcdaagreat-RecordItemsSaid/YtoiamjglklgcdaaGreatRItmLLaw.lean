/- Proved: for all plans p the law RecordItems answers true, and p reads behind the call as before: which items a plan has, by rising keys. No condition narrows the input. -/
import Derived.Test.YtoiamjglklgcdaaGreatRDocI
import Derived.Test.YtoiamjglklgcdaaGreatLeft
import Derived.Test.YtoiamjglklgcdaaGreatOpenPlan
namespace Go.Proofs.YtoiamjglklgcdaaGreat
open Go.RowKit Go.Lib

def FewAt (w : World) (o : List (Int × Int)) (l : List PV) (e : Ending) (w' : World) : Prop := ∃ b : Bool, e = .returned (.bool b) ∧ (b = true → o.length ≤ 300 ∧ cornN o l l.length ≤ 300 ∧ l.length ≤ 80) ∧ Below w.heap.size w w'
set_option maxRecDepth 100000 in
set_option maxHeartbeats 1000000 in
theorem few14_any (o : List (Int × Int)) (Ao : Option Addr) (co : Nat) (l : List PV) (Ap : Option Addr) (cp : Nat) (ho : o.length ≤ 8796093022208) (w : World) (hr : Prs w Ap l) :
  Calls Tryz.prog 10 #[.agg #[.slice Ao o.length co, .slice Ap l.length cp]] w fun e w' => FewAt w o l e w' := by
 have HR := Lib.hid (fun W (h : Below w.heap.size w W) => hr.on h)
 have HQ := (Hold.refl w).new #[.slice Ao o.length co, .slice Ap l.length cp] 26
 have HO := Lib.hid ho
 clear hr ho
 go_enter Tryz.func10, Tryz.ntmps10
 go_upto_region 1 with (fail)
 generalize (World.alloc _ _) = W1 at HQ ⊢
 obtain ⟨g0, hg0⟩ : ∃ g, w.heap.size = g := ⟨_, rfl⟩
 rw [hg0] at HQ ⊢
 have HG0 := Lib.hid hg0
 clear hg0
 obtain ⟨c0, c1⟩ := HQ.pt (.head _)
 go_wp2_with fail
 go_loopg [3, 4] l.length (fun g n i wr => ∃ k : Nat, k ≤ l.length ∧ g = l.length - k ∧ n = .int .i64 (cornN o l k) ∧ i = .int .i64 k ∧ cornN o l k ≤ 17592186044416 ∧ k ≤ 81 ∧ Hold w [(g0, #[.slice Ao o.length co, .slice Ap l.length cp], 26)] wr)
 case atStart => exact ⟨0, Nat.zero_le _, rfl, rfl, rfl, by have := HO.out; show o.length ≤ _; omega, by decide, HQ⟩
 case round =>
  clear HQ c0 c1
  obtain ⟨k, hk, hgk, rfl, rfl, hcl, hk81, HB⟩ := hrel
  have HGK := Lib.hid hgk
  clear hgk
  obtain ⟨c0, c1⟩ := HB.pt (.head _)
  have HCL := Lib.hid hcl
  have HB9 := Lib.hid HB
  have hcm := fun (m : Nat) (h : k ≤ m) => cornN_mono (o := o) (l := l) h
  have hc0 : o.length ≤ cornN o l k := cornN_mono (o := o) (l := l) (Nat.zero_le k)
  have HCM := Lib.hid (And.intro hc0 (hcm l.length hk))
  by_cases hlt : k < l.length
  ·have b0 : (0 : Int) ≤ (k : Int) := by omega
   have b1 : (k : Int) < (l.length : Int) := by omega
   have hx : l[k]? = some l[k] := List.getElem?_eq_getElem hlt
   have HS := Lib.hid (cornN_succ (o := o) hx)
   by_cases h81 : k < 81
   ·have b2 : (k : Int) < 81 := by omega
    by_cases h400 : cornN o l k ≤ 300
    ·have b3 : (cornN o l k : Int) ≤ 300 := by omega
     have hw := HR.out _ HB.1
     obtain ⟨ad, rfl, -, d0, d1, d2⟩ := hw.at hlt
     have hsz := (hw.2 l[k] (List.getElem_mem hlt)).2.2
     have w1 := wrap_in (n := (cornN o l k : Int) + (l[k].par.ring.length : Int)) (by omega) (by omega)
     clear hw hcm hc0 hx
     obtain ⟨cl, hcl'⟩ : ∃ n, cornN o l k = n := ⟨_, rfl⟩
     rw [hcl'] at hcl b3 w1 HS h400 ⊢
     clear hcl' hsz
     have HSZ := Lib.hid (hr_len HR.out (Below.refl _ w) hlt)
     have H4 := Lib.hid h400
     generalize l[k].par.ring = ps at *
     clear hcl h400 h81 HB
     go_wp2_with fail
     go_roundg (l.length - (k + 1))
     case measure => have := HGK.out; omega
     case rel => exact ⟨k + 1, by omega, rfl, by rw [HS.out]; simp, by go_num, by have := HS.out; have := H4.out; have := HSZ.out; omega, by omega, HB9.out⟩
    ·have b3 : ¬ (cornN o l k : Int) ≤ 300 := by omega
     clear hcm hc0 hx HB
     obtain ⟨cl, hcl'⟩ : ∃ n, cornN o l k = n := ⟨_, rfl⟩
     rw [hcl'] at hcl b3 h400 ⊢
     clear hcl h400 h81 hcl'
     go_wp2
     go_ret
     exact ⟨false, rfl, fun h => (by cases h), HB9.out.1⟩
   ·have b2 : ¬ (k : Int) < 81 := by omega
    have HL : Hid (¬ l.length ≤ 80) := by unfold Hid; omega
    have b4 : ¬ (l.length : Int) ≤ 80 := by omega
    clear hcm hc0 hx HB
    obtain ⟨cl, hcl'⟩ : ∃ n, cornN o l k = n := ⟨_, rfl⟩
    rw [hcl'] at hcl ⊢
    clear hcl h81 hcl'
    by_cases h400 : cl ≤ 300
    ·have b3 : (cl : Int) ≤ 300 := by omega
     clear h400
     go_wp2
     go_ret
     exact ⟨false, rfl, fun h => (by cases h), HB9.out.1⟩
    ·have b3 : ¬ (cl : Int) ≤ 300 := by omega
     clear h400
     go_wp2
     go_ret
     exact ⟨false, rfl, fun h => (by cases h), HB9.out.1⟩
  ·obtain rfl : k = l.length := by omega
   clear hcm hc0 HB
   obtain ⟨cl, hcl'⟩ : ∃ n, cornN o l l.length = n := ⟨_, rfl⟩
   have HCC := Lib.hid hcl'
   rw [hcl'] at hcl ⊢
   clear hcl hcl'
   by_cases h400 : cl ≤ 300
   ·have b3 : (cl : Int) ≤ 300 := by omega
    have H4 := Lib.hid h400
    clear h400
    by_cases h80 : l.length ≤ 80
    ·have b4 : (l.length : Int) ≤ 80 := by omega
     have H8 := Lib.hid h80
     clear h80
     go_wp2
     go_ret
     exact ⟨true, rfl, fun _ => ⟨by have := HCM.out.1; have := HCC.out; have := H4.out; omega, by rw [HCC.out]; exact H4.out, H8.out⟩, HB9.out.1⟩
    ·have b4 : ¬ (l.length : Int) ≤ 80 := by omega
     clear h80
     go_wp2
     go_ret
     exact ⟨false, rfl, fun h => (by cases h), HB9.out.1⟩
   ·have b3 : ¬ (cl : Int) ≤ 300 := by omega
    clear h400
    go_wp2
    go_ret
    exact ⟨false, rfl, fun h => (by cases h), HB9.out.1⟩


def rNo : ByteArray := ⟨#[]⟩
theorem rNo_ok : OwnOk rNo := ⟨fun j hj => absurd (show j < 0 from hj) (by omega), by decide⟩
theorem gv_items : (itmL gvR [⟨1, gvR, rNo⟩]).length = 8 := by decide +kernel
set_option maxHeartbeats 1000000 in
theorem rec_answers (w : World) :
  Calls Tryz.prog 9 #[] w fun e w' => e = .returned (.bool true) ∧ Below w.heap.size w w' := by
 have HQ := ((Hold.refl w).new (flatP gvR).toArray 56).new' #[.int .i64 1, .slice (some ⟨w.heap.size, 0, none⟩) 4 4, .string rNo] 58 (n := w.heap.size + 1) (by simp)
 have hp1 := pts_of (ps := gvR) (HQ.2.1 _ (.tail _ (.head _))).1 (HQ.lt (.tail _ (.head _)))
 have hpl : PlanAt _ gvR (some ⟨w.heap.size, 0, none⟩) 4 [⟨⟨1, gvR, rNo⟩, some ⟨w.heap.size, 0, none⟩, 4⟩] (some ⟨w.heap.size + 1, 0, none⟩) 1 := ⟨⟨items_one (HQ.2.1 _ (.head _)).1 rfl (HQ.lt (.head _)), fun x hx => by
  rw [List.mem_singleton.1 hx]
  exact ⟨hp1, (fun e => by cases e), (show gvR.length * 16 ≤ 140737488355328 by decide)⟩⟩, hp1, (fun e => by cases e), by decide, by decide, fun x hx => by
  rw [List.mem_singleton.1 hx]
  show gvR.length ≤ 4
  decide⟩
 have HIT := Lib.hid (Items_good gvR (some ⟨w.heap.size, 0, none⟩) 4 [⟨⟨1, gvR, rNo⟩, some ⟨w.heap.size, 0, none⟩, 4⟩] (some ⟨w.heap.size + 1, 0, none⟩) 1 (one_checks gv_norm gv_id rNo_ok) _ hpl)
 have HB := Lib.hid HQ.1
 clear HQ hp1 hpl
 go_enter Tryz.func9, Tryz.ntmps9
 go_wp2_with fail
 go_at_call 11
 refine HIT.out.mono ?_
 clear HIT
 rintro e' W4 ⟨v, L, rfl, hp, -, hr⟩
 obtain ⟨A, c, l', rfl, -, -, -, hl⟩ := hr.items
 have h8 : L.length = 8 := by rw [hp.length_eq]; exact gv_items
 have HB4 := Lib.hid (HB.out.trans (hr.below.mono HB.out.size))
 rw [h8]
 clear hp hr hl h8
 go_wp2
 go_ret
 exact ⟨rfl, HB4.out⟩
end Go.Proofs.YtoiamjglklgcdaaGreat

namespace Go.Proofs.YtoiamjglklgcdaaGreat
open Go.RowKit Go.Lib

theorem findTo_at {l : List Itm} {x : Itm} {i : Nat} (hi : i < l.length) (hx : l[i] = x) (hne : l.Pairwise KeyNe) : ∀ n, i < n → n ≤ l.length → findTo l x.1 n = (i : Int)
 |0, h, _ => by omega
 |n + 1, h, hn => by
  unfold findTo
  have hnl : n < l.length := by omega
  have e : l.getD n ([], []) = l[n] := by rw [List.getD_eq_getElem?_getD, List.getElem?_eq_getElem hnl]; rfl
  rw [e]
  by_cases hni : n = i
  ·subst hni
   rw [hx, if_pos rfl]
  ·have hlt : i < n := by omega
   have := List.pairwise_iff_getElem.1 hne i n hi hnl hlt
   rw [if_neg (fun e2 => this (by rw [hx, e2])), findTo_at hi hx hne n hlt (by omega)]
theorem find_mem {l : List Itm} {x : Itm} (hx : x ∈ l) (hne : l.Pairwise KeyNe) : ∃ k : Nat, findI l x.1 = (k : Int) ∧ ∃ h : k < l.length, l[k] = x := by
 obtain ⟨i, hi, e⟩ := List.getElem_of_mem hx
 exact ⟨i, findTo_at hi e hne l.length hi (Nat.le_refl _), hi, e⟩
set_option maxRecDepth 100000 in
set_option maxHeartbeats 8000000 in
theorem items_walk (o : List (Int × Int)) (Ao : Option Addr) (co : Nat) (l : List PV) (Ap : Option Addr) (cp : Nat) (ho : o.length ≤ 8796093022208) (hown : ∀ x ∈ l, x.par.own.size ≤ maxLen) (w : World) (h : PlanAt w o Ao co l Ap cp) :
  Calls Tryz.prog 3 #[.agg #[.slice Ao o.length co, .slice Ap l.length cp]] w fun e w' => e = .returned (.bool true) ∧ Below w.heap.size w w' := by
 have HAN := Lib.hid (fun W => rec_answers W)
 have HFW := Lib.hid (fun K W (hh : Hold w K W) => few14_any o Ao co l Ap cp ho W (h.prs.on hh.1))
 have HOW := Lib.hid (fun (hl : l.length ≤ 80) W (hb : Below w.heap.size w W) => Own_any o Ao co l Ap cp (by omega) W (h.on hb))
 have HCK := Lib.hid (fun (hl : l.length ≤ 80) (ho : o.length ≤ 300) W (hb : Below w.heap.size w W) => ref_chk o Ao co l Ap cp (by omega) (by omega) hown W (h.on hb).prs (h.on hb).out)
 have HBAD := Lib.hid (fun (hl : l.length ≤ 80) (hc : ¬ CheckP o l) (A1 : Option Addr) (c1 : Nat) (l' : List PV) (Ap1 : Option Addr) (cp1 : Nat) (W : World) (hm : l'.map PV.par = l.map PV.par) (hp : PlanAt W o A1 c1 l' Ap1 cp1) => (Items_bad o A1 c1 l' Ap1 cp1 (by have := par_len hm; omega) ho (own_par hm hown) (fun h => hc (chk_par1 hm.symm h)) W hp))
 have HGOOD := Lib.hid (fun (hc : CheckP o l) (A1 : Option Addr) (c1 : Nat) (l' : List PV) (Ap1 : Option Addr) (cp1 : Nat) (W : World) (hm : l'.map PV.par = l.map PV.par) (hp : PlanAt W o A1 c1 l' Ap1 cp1) => (Items_good o A1 c1 l' Ap1 cp1 (chk_par1 hm hc) W hp))
 have HDOC := Lib.hid (fun (hc : CheckP o l) W (hb : Below w.heap.size w W) => items_any o Ao co l Ap cp hc W (h.on hb))
 have HNE := Lib.hid (fun (hc : CheckP o l) => itmL_ne hc)
 have HLN := Lib.hid (fun (hc : CheckP o l) => itmL_len hc)
 have HQ := (Hold.refl w).new #[.slice Ao o.length co, .slice Ap l.length cp] 26
 clear h hown ho
 go_enter Tryz.func3, Tryz.ntmps3
 go_upto_region 1 with (fail)
 generalize (World.alloc _ _) = W1 at HQ ⊢
 obtain ⟨g3, hg3⟩ : ∃ g, w.heap.size = g := ⟨_, rfl⟩
 have HG3 := Lib.hid hg3
 rw [hg3] at HQ ⊢
 have HQ1 := Lib.hid HQ
 clear hg3 HQ
 go_wp2_with fail
 go_at_call 9
 refine (HAN.out _).mono ?_
 rintro e' W2 ⟨rfl, hB⟩
 have hq2 := HQ1.out.on hB
 obtain ⟨c0, c1⟩ := hq2.pt (.head _)
 have HQ2 := Lib.hid hq2
 clear hB hq2
 go_wp2_with fail
 go_at_call 10
 refine (HFW.out _ _ HQ2.out).mono ?_
 rintro e' W3 ⟨b, rfl, hb80, hB⟩
 have HQ3 := Lib.hid (HQ2.out.on hB)
 have HB80 := Lib.hid hb80
 clear c0 c1 hB hb80 HFW
 cases b
 ·go_wp2_with fail
  go_at_call 9
  refine (HAN.out _).mono ?_
  rintro e' W8 ⟨rfl, hB⟩
  have HQ8 := Lib.hid (HQ3.out.on hB)
  clear hB
  go_wp2
  go_ret
  exact ⟨rfl, HQ8.out.1⟩
 ·have hbb := HB80.out (by first | trivial | rfl)
  have H80 := Lib.hid hbb.2.2
  have H300 := Lib.hid hbb.1
  clear HB80 hbb HAN
  obtain ⟨c0, c1⟩ := HQ3.out.pt (.head _)
  have HOC := Lib.hid (HOW.out H80.out _ HQ3.out.1)
  go_wp2_with fail
  go_at_call 12
  refine HOC.out.mono ?_
  rintro e' W4 ⟨hB4, A1, c1', l', Ap1, cp1, rfl, hm, hp⟩
  have HQ4 := Lib.hid (HQ3.out.on hB4)
  have HM := Lib.hid hm
  have HP4 := Lib.hid hp
  have HLEN := Lib.hid (show l.length = l'.length from (par_len hm).symm)
  clear c0 c1 hB4 hm hp HOC
  by_cases hc : CheckP o l
  ·have HIT := Lib.hid (HGOOD.out hc A1 c1' l' Ap1 cp1 _ HM.out HP4.out)
   have HCC := Lib.hid hc
   have hck : chkB o l = true := chkB_iff.2 hc
   clear HGOOD HBAD hc
   rw [HLEN.out]
   go_wp2_with fail
   go_at_call 11
   refine HIT.out.mono ?_
   rintro e' W5 ⟨v, L, rfl, hpm, hlt, hr⟩
   have HQ5 := Lib.hid (HQ4.out.on hr.below)
   obtain ⟨A3, c3, l3, rfl, hi3, -, hm3⟩ := hr.its
   have HI3 := Lib.hid (fun W (hb : Below W5.heap.size W5 W) => hi3.on hb)
   rw [HM.out] at hpm
   have HPM := Lib.hid hpm
   have HLT := Lib.hid hlt
   have HM3 := Lib.hid hm3
   obtain ⟨c0, c1⟩ := HQ5.out.pt (.head _)
   have HCK5 := HCK.out H80.out H300.out _ HQ5.out.1
   rw [hck] at HCK5
   replace HCK5 := Lib.hid HCK5
   clear hpm hlt hr hi3 hm3 HIT HCK hck
   rw [← HLEN.out]
   go_wp2_with fail
   go_at_call 13
   refine HCK5.out.mono ?_
   rintro e' W6 ⟨rfl, hB6⟩
   have HB56 := Lib.hid hB6
   have HQ6 := Lib.hid (HQ5.out.on hB6)
   clear c0 c1 hB6 HCK5
   obtain ⟨c0, c1⟩ := HQ6.out.pt (.head _)
   have HDC := Lib.hid (HDOC.out HCC.out _ HQ6.out.1)
   go_wp2_with fail
   go_at_call 14
   refine HDC.out.mono ?_
   rintro e' W7 ⟨v7, rfl, hr7⟩
   have HB57 := Lib.hid (HB56.out.trans (hr7.below.mono HB56.out.size))
   have HQ7 := Lib.hid (HQ6.out.on hr7.below)
   obtain ⟨A5, c5, l5, rfl, hi5, -, hm5⟩ := hr7.its
   have HI5 := Lib.hid (fun W (hb : Below W7.heap.size W7 W) => hi5.on hb)
   have HM5 := Lib.hid hm5
   have hl35 : l3.length = l5.length := by
    have h1 := congrArg List.length HM3.out
    have h2 := congrArg List.length HM5.out
    rw [List.length_map] at h1 h2
    rw [h1, h2]
    exact HPM.out.length_eq
   have hl5n : l5.length ≤ 14000 := by
    have h2 := congrArg List.length HM5.out
    rw [List.length_map] at h2
    rw [h2]
    exact HLN.out HCC.out
   have HLR := Lib.hid hl35
   have HL5 := Lib.hid hl5n
   have HRS := Lib.hid (rising_good l3 A3 c3 (by omega) (by rw [HM3.out]; exact HLT.out) W7 (HI3.out _ HB57.out))
   rw [hl35] at HRS ⊢
   clear c0 c1 hr7 hi5 hm5 HDC HDOC hl35 hl5n HQ6 HB56
   go_wp2_with fail
   go_at_call 15
   refine HRS.out.mono ?_
   rintro e' W8 ⟨rfl, hB8⟩
   have HB78 := Lib.hid hB8
   have HBW8 := Lib.hid (HQ7.out.1.trans (hB8.mono HQ7.out.1.size))
   clear hB8 HRS
   go_wp2_with fail
   go_loopg [6] l5.length (fun g i wr => ∃ k : Nat, k ≤ l5.length ∧ g = l5.length - k ∧ i = .int .i64 (k : Int) ∧ Below W8.heap.size W8 wr)
   case atStart => exact ⟨0, Nat.zero_le _, rfl, rfl, Below.refl _ _⟩
   case round =>
    obtain ⟨k, hk, hgk, rfl, hBk⟩ := hrel
    have HGK := Lib.hid hgk
    have HBK := Lib.hid hBk
    clear hgk
    have h14 := HL5.out
    by_cases hlt : k < l5.length
    ·have b0 : (0 : Int) ≤ (k : Int) := by omega
     have b1 : (k : Int) < (l5.length : Int) := by omega
     have hk0 : IntKind.i64.wrap ((k : Int) + 1) = (k : Int) + 1 := IntWalk.i64_in _ (by omega)
     have HB7k := Lib.hid (HB78.out.trans (hBk.mono HB78.out.size))
     have HB5k := Lib.hid (HB57.out.trans (HB7k.out.mono HB57.out.size))
     have hmem : IV.it l5[k] ∈ l3.map IV.it := by
      rw [HM3.out, HPM.out.mem_iff, ← HM5.out]
      exact List.mem_map.2 ⟨_, List.getElem_mem hlt, rfl⟩
     obtain ⟨m, hfm, hml, hme⟩ := find_mem hmem (keyLt_ne (by rw [HM3.out]; exact HLT.out))
     have hm3l : m < l3.length := by rw [List.length_map] at hml; exact hml
     have hme2 : l3[m].val = l5[k].val := by
      rw [List.getElem_map] at hme
      exact congrArg Prod.snd hme
     have hAt5 := HI5.out _ HB7k.out
     have hFND := find_any l3 A3 c3 l5[k].key l5[k].kA l5[k].kc (by have := HLR.out; omega) wr (HI3.out _ HB5k.out) (hAt5.2 l5[k] (List.getElem_mem hlt)).key.bytes
     rw [show (l5[k].key) = (IV.it l5[k]).1 from rfl, hfm] at hFND
     obtain ⟨ad5, e5, -, -⟩ := its_at hAt5 hlt
     obtain ⟨ad3, e3, -, -⟩ := its_at (HI3.out _ HB5k.out) hm3l
     subst e5
     subst e3
     have hC : ∀ W, Below wr.heap.size wr W → W.cell? (ad5.add (k * 2)) = some (.slice l5[k].kA l5[k].key.length l5[k].kc) ∧ W.cell? ⟨(ad5.add (k * 2)).block, (ad5.add (k * 2)).off + 1, none⟩ = some (.slice l5[k].vA l5[k].val.length l5[k].vc) ∧ W.cell? ⟨(ad3.add (m * 2)).block, (ad3.add (m * 2)).off + 1, none⟩ = some (.slice l3[m].vA l3[m].val.length l3[m].vc) ∧ (convert 37 9 (.slice l5[k].vA l5[k].val.length l5[k].vc)).run Tryz.prog W = .ok (.string ⟨l5[k].val.toArray⟩) W ∧ (convert 37 9 (.slice l3[m].vA l3[m].val.length l3[m].vc)).run Tryz.prog W = .ok (.string ⟨l3[m].val.toArray⟩) W := fun W hb => by
      have h5 := HI5.out W (HB7k.out.trans (hb.mono HB7k.out.size))
      have h3 := HI3.out W (HB5k.out.trans (hb.mono HB5k.out.size))
      obtain ⟨ad', e, q0, q1⟩ := its_at h5 hlt
      obtain rfl := Option.some.inj e
      obtain ⟨ad', e, -, p1⟩ := its_at h3 hm3l
      obtain rfl := Option.some.inj e
      exact ⟨q0, q1, p1, conv_str (h5.2 l5[k] (List.getElem_mem hlt)).val.bytes, conv_str (h3.2 l3[m] (List.getElem_mem hm3l)).val.bytes⟩
     rw [hme2] at hC
     have hmi : (m : Int) < (l5.length : Int) := by have := HLR.out; omega
     have hm0 : (0 : Int) ≤ (m : Int) := by omega
     have hm1 : ¬ (m : Int) < 0 := by omega
     have HF := Lib.hid (show Calls Tryz.prog 16 #[.slice (some ad3) l3.length c3, .slice l5[k].kA l5[k].key.length l5[k].kc] wr _ from hFND)
     rw [HLR.out] at HF
     clear hmem hfm hml hme hme2 hAt5 hFND hBk h14
     generalize l5[k].kA = kA at *
     generalize l5[k].kc = kc at *
     generalize l5[k].key = ky at *
     generalize l5[k].vA = vA at *
     generalize l5[k].vc = vc at *
     generalize l5[k].val = vl at *
     generalize l3[m].vA = vA' at *
     generalize l3[m].vc = vc' at *
     obtain ⟨s1, hs1⟩ : ∃ s : ByteArray, (⟨vl.toArray⟩ : ByteArray) = s := ⟨_, rfl⟩
     rw [hs1] at hC
     have hcc : (s1.toList == s1.toList) = true := by simp
     have HC := Lib.hid hC
     obtain ⟨c0, -⟩ := hC wr (Below.refl _ _)
     clear hs1 hC
     go_upto_region 13 with (go_at_call 16; go_must ((with_reducible refine HF.out.mono ?_); rintro e' W9 ⟨rfl, hB9⟩; have HB9 := Lib.hid hB9; clear hB9))
     clear c0 HF
     refine wp_region_held_drew (S := fun W => W.cell? ⟨(ad5.add (k * 2)).block, (ad5.add (k * 2)).off + 1, none⟩ = some (.slice vA vl.length vc) ∧ W.cell? ⟨(ad3.add (m * 2)).block, (ad3.add (m * 2)).off + 1, none⟩ = some (.slice vA' vl.length vc') ∧ (convert 37 9 (.slice vA vl.length vc)).run Tryz.prog W = .ok (.string s1) W ∧ (convert 37 9 (.slice vA' vl.length vc')).run Tryz.prog W = .ok (.string s1) W) (by kernel_rfl) ((HC.out _ HB9.out.drew).2) (fun hHeld => ?_)
     refine tZ 0 ?_; refine tZ 1 ?_; refine tZ 2 ?_; refine tZ 3 ?_; refine tZ 4 ?_; refine tZ 5 ?_; refine tZ 6 ?_; refine tZ 7 ?_; refine tZ 8 ?_; refine tZ 9 ?_; refine tZ 10 ?_; refine tZ 11 ?_; refine tZ 12 ?_; refine tZ 13 ?_; refine tZ 14 ?_; refine tZ 15 ?_; refine tZ 16 ?_
     refine wpAnyH_done (by decide +kernel) ?_ _
     have HBZ := Lib.hid (HBK.out.trans (HB9.out.drew.mono HBK.out.size))
     clear hHeld HC
     go_wp2
     go_roundg (l5.length - (k + 1))
     case measure => have := HGK.out; omega
     case rel => exact ⟨k + 1, by omega, rfl, by go_num, HBZ.out⟩
    ·obtain rfl : k = l5.length := by omega
     have HBZ := Lib.hid (HBW8.out.trans (HBK.out.mono HBW8.out.size))
     clear hBk
     go_wp2
     go_ret
     exact ⟨rfl, HBZ.out⟩
  ·have HIT := Lib.hid (HBAD.out H80.out hc A1 c1' l' Ap1 cp1 _ HM.out HP4.out)
   have hck : chkB o l = false := by rw [← Bool.not_eq_true, chkB_iff]; exact hc
   clear HGOOD HBAD hc HDOC HNE HLN
   rw [HLEN.out]
   go_wp2_with fail
   go_at_call 11
   refine HIT.out.mono ?_
   rintro e' W5 ⟨rfl, hB5⟩
   have HQ5 := Lib.hid (HQ4.out.on hB5)
   obtain ⟨c0, c1⟩ := HQ5.out.pt (.head _)
   have HCK5 := HCK.out H80.out H300.out _ HQ5.out.1
   rw [hck] at HCK5
   replace HCK5 := Lib.hid HCK5
   clear hB5 HIT HCK hck
   rw [← HLEN.out]
   go_wp2_with fail
   go_at_call 13
   refine HCK5.out.mono ?_
   rintro e' W6 ⟨rfl, hB6⟩
   have HQ6 := Lib.hid (HQ5.out.on hB6)
   clear c0 c1 hB6 HCK5
   go_wp2
   go_ret
   exact ⟨rfl, HQ6.out.1⟩
end Go.Proofs.YtoiamjglklgcdaaGreat
set_option maxRecDepth 100000
namespace Go.Proofs.YtoiamjglklgcdaaGreat.recordItems
open Go.Joins Go.ChangeShapes Go.WideShapes Go.ChangeAt Go.RowKit

theorem contract (H : Type) (enc : TypeId × Value → H) (W : World) (base : Nat) (args : Array Value) (ds gs : List (DataW H)) (before : List MemPlace)
  (hval : ∀ (j : Nat) t v, Tryz.f3.params[j]? = some t → args[j]? = some v → Value.okWide Tryz.prog W .any base t v)
  (hW : DataW.Whole enc Tryz.prog Tryz.f3.params.toList Rows.recordItemsSpec.vars false W args.toList ds gs before)
  (hsz : (DataW.weightsEach Tryz.prog (Tryz.f3.params.toList ++ (OpenSpec.ofChange Rows.recordItemsSpec).bare.plain.varTypes Tryz.prog) (ds ++ gs)).all (· ≤ reachBytes) = true) :
  Calls Tryz.prog 3 args W fun e W' => ∃ v, e = .returned v ∧ Rows.recordItemsSpec.post enc Tryz.prog Tryz.f3 false true false false W args v W' := by
 have hW' := hW
 have hlt := fun p hp => hW.lt p hp
 obtain ⟨p, q, hA0, hV, rfl, -, -⟩ := hW
 have hA : DataW.TrodAll enc Tryz.prog W 0 (fun _ => true) true Tryz.f3.params.toList args.toList ds p := hA0
 rw [Tryz.params3] at hA hval
 obtain ⟨v0, vs0, d0, ds0, p0, q0, hargs, rfl, rfl, h0, r0⟩ := trodAll_cons hA
 obtain ⟨rfl, rfl, rfl⟩ := trodAll_nil r0
 obtain rfl : args = #[v0] := by cases args; simp_all
 obtain ⟨rfl, rfl⟩ := trodVars_none hV
 have hl0 : ∀ q ∈ p0, q.block < W.heap.size := fun q hq => hlt q (by simp [hq])
 obtain ⟨o, Ao, co, p, Ap, cp, rfl, hown, hpl⟩ := open_plan (hval 0 26 v0 rfl rfl) h0
 obtain ⟨hl, hat⟩ := hpl fun k hk => of_decide_eq_true (List.all_eq_true.1 hsz _ (DataW.weights_mem_each (j := 0) (t := 26) (by rw [Tryz.params3]; rfl) rfl k hk))
 clear hA0
 refine (items_walk o Ao co p Ap cp (by have := hat.room; omega) hown W hat).mono fun e W' ⟨he, hb⟩ => ?_
 subst he
 exact ⟨_, rfl, post_under (pa := (p0 ++ [])) (pv := []) hW' (fun _ _ _ => trodAll_cons_mk (shut_bool Tryz.underlying4 _) trodAll_mk0)
  (fun _ hs => (trodAll_cons_mk (again (by kernel_rfl) (of_decide_eq_true (by kernel_rfl)) h0 hb hl0 (fun q hq => hs q (by simp [hq]))) trodAll_mk0)) (fun _ _ => rfl) (by simp)
  hb (ok_one (by kernel_rfl) rfl (okWide_bool_mk Tryz.underlying4 _))⟩

noncomputable def wit : Array Value := #[.agg #[.slice none 0 0, .slice none 0 0]]
theorem reads (os : Os) {H : Type} (enc : TypeId × Value → H) : ∃ places, DataW.whole enc Tryz.prog ((World.holding Tryz.prog os ⟨#[], #[], []⟩).forCall (fun _ _ => 0) ⟨#[], wit, []⟩).memory Tryz.f3.params.toList Rows.recordItemsSpec.vars false wit.toList 8 = some ([.agg [.nil, .nil]], [], places) :=
 ⟨[], by kernel_rfl⟩

theorem laid_met (os : Os) : laidMet Tryz.prog Rows.recordItemsRow.laid ((World.holding Tryz.prog os ⟨#[], #[], []⟩).forCall (fun _ _ => 0) ⟨#[], wit, []⟩).memory :=
 laidMet_of_run' 8 (by kernel_rfl) (by kernel_rfl)

set_option maxRecDepth 100000 in
theorem lifted (os : Os) (started : os.Started) (H : Type) (enc : TypeId × Value → H) (F : Stop.Interp) :
  ReturnsInHanded {} Tryz.checked os 3 .any ((OpenSpec.ofChange Rows.recordItemsSpec).preRow enc Tryz.prog Tryz.f3 Rows.recordItemsRow.domain false Rows.recordItemsRow.laid) (((OpenSpec.ofChange Rows.recordItemsSpec).at F).post enc Tryz.prog Tryz.f3 false true false false) := by
 obtain ⟨places, hx⟩ := reads os enc
 refine returnsInHanded_of_row (C := Tryz.checked) (s := OpenSpec.ofChange Rows.recordItemsSpec) own started (by kernel_rfl) Tryz.func3
  (witness_row_at (enc := enc) (C := Tryz.checked) false (World.holding Tryz.prog os ⟨#[], #[], []⟩) wit rfl (by kernel_rfl) (by kernel_rfl) (by kernel_rfl)
   (OpenSpec.preRow_of_cond 8 hx (by kernel_rfl) (fun k hk => by cases hk) (by kernel_rfl) (laid_met os))) ?_
 intro W base args ds gs before hval hW _ _ hsz _ _ _
 exact contract H enc W base args ds gs before hval hW hsz

theorem said : Rows.RecordItemsSaid :=
 OpenClaim.holds_of_cond 3 Tryz.f3 rfl rfl rfl rfl rfl rfl rfl ⟨rfl, rfl, rfl, rfl, rfl⟩ rfl rfl rfl rfl rfl (by kernel_rfl) Tryz.func3 (by kernel_rfl)
  (of_decide_eq_true (by kernel_rfl)) (by unfold Func.isWrapper; first | (rw [if_pos (by decide +kernel)]; kernel_rfl) | (rw [if_neg (by decide +kernel)]; exact ⟨rfl, rfl⟩))
  (fun os started H enc _ F => by rw [OpenClaim.pre_eq_preRow]; exact lifted os started H enc F)
end Go.Proofs.YtoiamjglklgcdaaGreat.recordItems
