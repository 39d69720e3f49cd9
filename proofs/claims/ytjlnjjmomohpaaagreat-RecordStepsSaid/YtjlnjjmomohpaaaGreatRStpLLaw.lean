/- Layer record's laws: which plans have few corners; the given answer. -/
import Derived.Test.YtjlnjjmomohpaaaGreatRItems
import Derived.Test.YtjlnjjmomohpaaaGreatRDltP
import Derived.Test.YtjlnjjmomohpaaaGreatLeft
import Derived.Test.YtjlnjjmomohpaaaGreatRefChg
import Derived.Test.YtjlnjjmomohpaaaGreatRefChk
import Derived.Test.YtjlnjjmomohpaaaGreatOpenPlan
namespace Go.Proofs.YtjlnjjmomohpaaaGreat
open Go.RowKit Go.Lib

def FewAt (w : World) (o : List (Int × Int)) (l : List PV) (e : Ending) (w' : World) : Prop := ∃ b : Bool, e = .returned (.bool b) ∧ (b = true → o.length ≤ 300 ∧ cornN o l l.length ≤ 300 ∧ l.length ≤ 80) ∧ Below w.heap.size w w'
set_option maxRecDepth 100000 in
set_option maxHeartbeats 1000000 in
theorem few14_any (o : List (Int × Int)) (Ao : Option Addr) (co : Nat) (l : List PV) (Ap : Option Addr) (cp : Nat) (ho : o.length ≤ 8796093022208) (w : World) (hr : Prs w Ap l) :
  Calls Tryz.prog 10 #[.agg #[.slice Ao o.length co, .slice Ap l.length cp]] w fun e w' => FewAt w o l e w' := by
 have HR := Lib.hid (fun W (h : Below w.heap.size w W) => hr.on h)
 have HQ := (Hold.refl w).new #[.slice Ao o.length co, .slice Ap l.length cp] 26
 have HO := Lib.hid ho
 clear hr ho
 go_enter Tryz.func10, Tryz.ntmps10
 go_upto_region 1 with (fail)
 generalize (World.alloc _ _) = W1 at HQ ⊢
 obtain ⟨g0, hg0⟩ : ∃ g, w.heap.size = g := ⟨_, rfl⟩
 rw [hg0] at HQ ⊢
 have HG0 := Lib.hid hg0
 clear hg0
 obtain ⟨c0, c1⟩ := HQ.pt (.head _)
 go_wp2_with fail
 go_loopg [3, 4] l.length (fun g n i wr => ∃ k : Nat, k ≤ l.length ∧ g = l.length - k ∧ n = .int .i64 (cornN o l k) ∧ i = .int .i64 k ∧ cornN o l k ≤ 17592186044416 ∧ k ≤ 81 ∧ Hold w [(g0, #[.slice Ao o.length co, .slice Ap l.length cp], 26)] wr)
 case atStart => exact ⟨0, Nat.zero_le _, rfl, rfl, rfl, by have := HO.out; show o.length ≤ _; omega, by decide, HQ⟩
 case round =>
  clear HQ c0 c1
  obtain ⟨k, hk, hgk, rfl, rfl, hcl, hk81, HB⟩ := hrel
  have HGK := Lib.hid hgk
  clear hgk
  obtain ⟨c0, c1⟩ := HB.pt (.head _)
  have HCL := Lib.hid hcl
  have HB9 := Lib.hid HB
  have hcm := fun (m : Nat) (h : k ≤ m) => cornN_mono (o := o) (l := l) h
  have hc0 : o.length ≤ cornN o l k := cornN_mono (o := o) (l := l) (Nat.zero_le k)
  have HCM := Lib.hid (And.intro hc0 (hcm l.length hk))
  by_cases hlt : k < l.length
  ·have b0 : (0 : Int) ≤ (k : Int) := by omega
   have b1 : (k : Int) < (l.length : Int) := by omega
   have hx : l[k]? = some l[k] := List.getElem?_eq_getElem hlt
   have HS := Lib.hid (cornN_succ (o := o) hx)
   by_cases h81 : k < 81
   ·have b2 : (k : Int) < 81 := by omega
    by_cases h400 : cornN o l k ≤ 300
    ·have b3 : (cornN o l k : Int) ≤ 300 := by omega
     have hw := HR.out _ HB.1
     obtain ⟨ad, rfl, -, d0, d1, d2⟩ := hw.at hlt
     have hsz := (hw.2 l[k] (List.getElem_mem hlt)).2.2
     have w1 := wrap_in (n := (cornN o l k : Int) + (l[k].par.ring.length : Int)) (by omega) (by omega)
     clear hw hcm hc0 hx
     obtain ⟨cl, hcl'⟩ : ∃ n, cornN o l k = n := ⟨_, rfl⟩
     rw [hcl'] at hcl b3 w1 HS h400 ⊢
     clear hcl' hsz
     have HSZ := Lib.hid (hr_len HR.out (Below.refl _ w) hlt)
     have H4 := Lib.hid h400
     generalize l[k].par.ring = ps at *
     clear hcl h400 h81 HB
     go_wp2_with fail
     go_roundg (l.length - (k + 1))
     case measure => have := HGK.out; omega
     case rel => exact ⟨k + 1, by omega, rfl, by rw [HS.out]; simp, by go_num, by have := HS.out; have := H4.out; have := HSZ.out; omega, by omega, HB9.out⟩
    ·have b3 : ¬ (cornN o l k : Int) ≤ 300 := by omega
     clear hcm hc0 hx HB
     obtain ⟨cl, hcl'⟩ : ∃ n, cornN o l k = n := ⟨_, rfl⟩
     rw [hcl'] at hcl b3 h400 ⊢
     clear hcl h400 h81 hcl'
     go_wp2
     go_ret
     exact ⟨false, rfl, fun h => (by cases h), HB9.out.1⟩
   ·have b2 : ¬ (k : Int) < 81 := by omega
    have HL : Hid (¬ l.length ≤ 80) := by unfold Hid; omega
    have b4 : ¬ (l.length : Int) ≤ 80 := by omega
    clear hcm hc0 hx HB
    obtain ⟨cl, hcl'⟩ : ∃ n, cornN o l k = n := ⟨_, rfl⟩
    rw [hcl'] at hcl ⊢
    clear hcl h81 hcl'
    by_cases h400 : cl ≤ 300
    ·have b3 : (cl : Int) ≤ 300 := by omega
     clear h400
     go_wp2
     go_ret
     exact ⟨false, rfl, fun h => (by cases h), HB9.out.1⟩
    ·have b3 : ¬ (cl : Int) ≤ 300 := by omega
     clear h400
     go_wp2
     go_ret
     exact ⟨false, rfl, fun h => (by cases h), HB9.out.1⟩
  ·obtain rfl : k = l.length := by omega
   clear hcm hc0 HB
   obtain ⟨cl, hcl'⟩ : ∃ n, cornN o l l.length = n := ⟨_, rfl⟩
   have HCC := Lib.hid hcl'
   rw [hcl'] at hcl ⊢
   clear hcl hcl'
   by_cases h400 : cl ≤ 300
   ·have b3 : (cl : Int) ≤ 300 := by omega
    have H4 := Lib.hid h400
    clear h400
    by_cases h80 : l.length ≤ 80
    ·have b4 : (l.length : Int) ≤ 80 := by omega
     have H8 := Lib.hid h80
     clear h80
     go_wp2
     go_ret
     exact ⟨true, rfl, fun _ => ⟨by have := HCM.out.1; have := HCC.out; have := H4.out; omega, by rw [HCC.out]; exact H4.out, H8.out⟩, HB9.out.1⟩
    ·have b4 : ¬ (l.length : Int) ≤ 80 := by omega
     clear h80
     go_wp2
     go_ret
     exact ⟨false, rfl, fun h => (by cases h), HB9.out.1⟩
   ·have b3 : ¬ (cl : Int) ≤ 300 := by omega
    clear h400
    go_wp2
    go_ret
    exact ⟨false, rfl, fun h => (by cases h), HB9.out.1⟩


def rNo : ByteArray := ⟨#[]⟩
theorem rNo_ok : OwnOk rNo := ⟨fun j hj => absurd (show j < 0 from hj) (by omega), by decide⟩
theorem gv_items : (itmL gvR [⟨1, gvR, rNo⟩]).length = 8 := by decide +kernel
set_option maxHeartbeats 1000000 in
theorem rec_answers (w : World) :
  Calls Tryz.prog 9 #[] w fun e w' => e = .returned (.bool true) ∧ Below w.heap.size w w' := by
 have HQ := ((Hold.refl w).new (flatP gvR).toArray 56).new' #[.int .i64 1, .slice (some ⟨w.heap.size, 0, none⟩) 4 4, .string rNo] 58 (n := w.heap.size + 1) (by simp)
 have hp1 := pts_of (ps := gvR) (HQ.2.1 _ (.tail _ (.head _))).1 (HQ.lt (.tail _ (.head _)))
 have hpl : PlanAt _ gvR (some ⟨w.heap.size, 0, none⟩) 4 [⟨⟨1, gvR, rNo⟩, some ⟨w.heap.size, 0, none⟩, 4⟩] (some ⟨w.heap.size + 1, 0, none⟩) 1 := ⟨⟨items_one (HQ.2.1 _ (.head _)).1 rfl (HQ.lt (.head _)), fun x hx => by
  rw [List.mem_singleton.1 hx]
  exact ⟨hp1, (fun e => by cases e), (show gvR.length * 16 ≤ 140737488355328 by decide)⟩⟩, hp1, (fun e => by cases e), by decide, by decide, fun x hx => by
  rw [List.mem_singleton.1 hx]
  show gvR.length ≤ 4
  decide⟩
 have HIT := Lib.hid (Items_good gvR (some ⟨w.heap.size, 0, none⟩) 4 [⟨⟨1, gvR, rNo⟩, some ⟨w.heap.size, 0, none⟩, 4⟩] (some ⟨w.heap.size + 1, 0, none⟩) 1 (one_checks gv_norm gv_id rNo_ok) _ hpl)
 have HB := Lib.hid HQ.1
 clear HQ hp1 hpl
 go_enter Tryz.func9, Tryz.ntmps9
 go_wp2_with fail
 go_at_call 11
 refine HIT.out.mono ?_
 clear HIT
 rintro e' W4 ⟨v, L, rfl, hp, -, hr⟩
 obtain ⟨A, c, l', rfl, -, -, -, hl⟩ := hr.items
 have h8 : L.length = 8 := by rw [hp.length_eq]; exact gv_items
 have HB4 := Lib.hid (HB.out.trans (hr.below.mono HB.out.size))
 rw [h8]
 clear hp hr hl h8
 go_wp2
 go_ret
 exact ⟨rfl, HB4.out⟩
def KsAt (W : World) (A : Option Addr) (l : List KV) : Prop := Items W W.heap.size A encK l ∧ ∀ x ∈ l, KAt W x
theorem KsAt.on {W W' : World} {A : Option Addr} {l : List KV} (h : KsAt W A l) (hb : Below W.heap.size W W') : KsAt W' A l := ⟨h.1.on hb, fun x hx => (h.2 x hx).on hb⟩
theorem KRow.its {w W : World} {v : Value} {l : List (List UInt8)} (h : KRow w v l W) : ∃ A c l', v = .slice A l'.length c ∧ KsAt W A l' ∧ l'.map KV.key = l := by
 obtain ⟨l', h1, h2, h3⟩ := h
 obtain ⟨A, c, e, hi, -⟩ := h1.items
 exact ⟨A, c, l', e, ⟨hi, h2⟩, h3⟩
theorem ks_at {W : World} {A : Option Addr} {l : List KV} (h : KsAt W A l) {k : Nat} (hk : k < l.length) : ∃ ad, A = some ad ∧ W.cell? (ad.add k) = some (.slice l[k].A l[k].key.length l[k].c) := by
 obtain ⟨ad, e, -, h0, -⟩ := h.1.at kindK.len hk
 have := h0 _ (by decide) rfl
 rw [Nat.mul_one] at this
 exact ⟨ad, e, this⟩
theorem append_kk {w0 w1 W : World} {v vg : Value} {l lg : List (List UInt8)} (HR : KRow w0 v l W) (HG : KRow w1 vg lg W) (hn : l.length + lg.length ≤ 1000000)
  {ops : Array Oper} {rest : List Oper} {o : Oper} {a : Act} {Q : Exit → Act → World → Prop} (hgd : o.guard = none) (s y : Operand)
  (ho : o.op = .call { callee := .builtin .append, args := #[s, y], argTypes := #[46, 46] })
  (hs : a.eval s = v) (hy : a.eval y = vg)
  (h : ∀ v' w', KRow w0 v' (l ++ lg) w' → KeepT 37 W w' → wpList Tryz.prog ops Q rest (a.put o.dst v') w') :
  wpList Tryz.prog ops Q (o :: rest) a W := by
 have HR0 := HR
 obtain ⟨l', h1, h2, h3⟩ := HR
 obtain ⟨g', k1, k2, k3⟩ := HG
 obtain ⟨i0, z, hi, hz0, hz1, hz2, hz3⟩ := kindK.info
 have hl : l'.length = l.length := by rw [← h3, List.length_map]
 have hlg : g'.length = lg.length := by rw [← k3, List.length_map]
 rcases k1.2.2 with ⟨rfl, h0⟩ | ⟨gb, cap, cur, rfl, hg, hh, hle, hcm, hcs, htk⟩
 ·obtain rfl : g' = [] := List.length_eq_zero_iff.1 h0
  obtain rfl : lg = [] := by rw [← k3]; rfl
  have hrun := run_append_owned_none (P := Tryz.prog) (w := W) w0.heap.size 46 o.type 37 i0 1 Tryz.underlying46 hi v l'.length (l'.flatMap encK) h1.2
  have h' := h v W (by rw [List.append_nil]; exact HR0) (KeepT.below (Below.refl _ _))
  refine wpList_plain hgd fun K hK => ?_
  unfold Oper.wp
  simp [execOp, ho, resolve, invoke, builtin, hs, hy, hrun, Result.andThen]
  exact hK _ _ h'
 ·refine wpList_append_own _ hgd s y 46 ho w0.heap.size 37 i0 z 1 24 Tryz.underlying46 hi hz0 hz1 hz2 hz3 (by decide) v l'.length (l'.flatMap encK) hs h1.2 ⟨gb, 0, none⟩ g'.length cap (g'.flatMap encK) hy (flat_len kindK.len _) ?_ (fun u hu => ?_) (by unfold maxLen; omega) (by omega) h1.1.size ?_
  ·intro j u hu
   rw [add_off, blk_cell hh, ← Array.getElem?_toList]
   rw [← htk, List.getElem?_take] at hu
   split at hu
   ·exact hu
   ·cases hu
  ·obtain ⟨x, -, hx⟩ := List.mem_flatMap.1 hu
   exact kindK.one x u hx
  ·intro v' w' hown hgrow _
   have hk : KeepT 37 W w' := KeepT.grown h1.2 hgrow
   refine h v' w' ⟨l' ++ g', ⟨grownB h1.1 (Nat.le_refl _) hgrow (fun k hk => (h1.2.lt k hk).1), ?_⟩, fun y hy => ?_, by rw [List.map_append, h3, k3]⟩ hk
   ·rw [List.length_append, List.flatMap_append]
    exact hown
   ·rcases List.mem_append.1 hy with hy | hy
    ·exact (h2 y hy).keep hk (by decide)
    ·exact (k2 y hy).keep hk (by decide)
end Go.Proofs.YtjlnjjmomohpaaaGreat

namespace Go.Proofs.YtjlnjjmomohpaaaGreat
open Go.RowKit Go.Lib

theorem lastIt_mem {L : List Itm} {z v : List UInt8} (h : lastIt L z = some v) : (z, v) ∈ L := by
 rcases find_last L z with ⟨k, -, hk, e1, e2⟩ | ⟨-, e⟩
 ·rw [e2] at h
  have h2 := Option.some.inj h
  have h3 : L[k] = (z, v) := Prod.ext e1 h2
  rw [← h3]
  exact List.getElem_mem hk
 ·rw [e] at h; cases h
theorem key_one {L : List Itm} (hn : L.Pairwise KeyNe) {x y : Itm} (hx : x ∈ L) (hy : y ∈ L) (e : x.1 = y.1) : x = y := by
 induction hn with
 |nil => cases hx
 |cons h1 h2 ih =>
  rcases List.mem_cons.1 hx with rfl | hx'
  ·rcases List.mem_cons.1 hy with rfl | hy'
   ·rfl
   ·exact absurd e (h1 _ hy')
  ·rcases List.mem_cons.1 hy with rfl | hy'
   ·exact absurd e.symm (h1 _ hx')
   ·exact ih hx' hy'
theorem lastIt_of {L : List Itm} (hn : L.Pairwise KeyNe) {z v : List UInt8} (h : (z, v) ∈ L) : lastIt L z = some v := by
 cases e : lastIt L z with
 |none => exact absurd rfl (lastIt_none e _ h)
 |some u => exact congrArg some (congrArg Prod.snd (key_one hn (lastIt_mem e) h rfl))
def parts (La Lb : List Itm) (z1 z2 : List (List UInt8)) : List (List UInt8) := (putI La Lb z2).map Prod.fst ++ z1.filter fun z => (lastIt Lb z).isNone
theorem parts_or {La Lb : List Itm} {z1 z2 : List (List UInt8)} (ha : La.Pairwise KeyNe) (h1 : ∀ z, z ∈ z1 ↔ (lastIt La z).isSome = true) {z : List UInt8} (hz : z ∈ parts La Lb z1 z2) :
  ∃ v, ((z, v) ∈ Lb ∧ (z, v) ∉ La) ∨ ((z, v) ∈ La ∧ (z, v) ∉ Lb) := by
 rcases List.mem_append.1 hz with h | h
 ·obtain ⟨x, hx, rfl⟩ := List.mem_map.1 h
  obtain ⟨-, e2, e3⟩ := mem_putI.1 hx
  exact ⟨x.2, .inl ⟨lastIt_mem e2, fun hm => e3 (lastIt_of ha hm)⟩⟩
 ·obtain ⟨h2, h3⟩ := List.mem_filter.1 h
  have h4 := (h1 z).1 h2
  cases e : lastIt La z with
  |none => rw [e] at h4; cases h4
  |some v =>
   refine ⟨v, .inr ⟨lastIt_mem e, fun hm => ?_⟩⟩
   cases e2 : lastIt Lb z with
   |none => exact lastIt_none e2 _ hm rfl
   |some u => rw [e2] at h3; cases h3
def KeyC (o1 : List (Int × Int)) (l1 : List Par) (o2 : List (Int × Int)) (l2 : List Par) (z : List UInt8) : Prop :=
 ((∃ b, z = [111, b]) ∧ o1 ≠ o2) ∨ ∃ id, ChP l1 l2 id ∧ idB id = true ∧ ((∃ b, z = 112 :: (idK id ++ [b])) ∨ (∃ r, z = 101 :: r) ∨ ∃ b c, z = 99 :: b :: c :: idK id)
theorem firstQ_mem {l : List Par} (hn : (idsQ l).Nodup) {p : Par} (hp : p ∈ l) : firstQ l p.id = some p := by
 obtain ⟨a, ha⟩ := firstQ_some (List.mem_map_of_mem (f := Par.id) hp)
 obtain ⟨h1, h2⟩ := firstQ_id ha
 rw [ha]
 congr 1
 unfold idsQ at hn
 induction l with
 |nil => cases hp
 |cons y l ih =>
  rw [List.map_cons, List.nodup_cons] at hn
  rcases List.mem_cons.1 h2 with rfl | h2'
  ·rcases List.mem_cons.1 hp with rfl | hp'
   ·rfl
   ·exact absurd (h1 ▸ List.mem_map_of_mem (f := Par.id) hp') hn.1
  ·rcases List.mem_cons.1 hp with rfl | hp'
   ·exact absurd (h1 ▸ List.mem_map_of_mem (f := Par.id) h2') hn.1
   ·have hne : ¬ y.id = p.id := fun e => hn.1 (e ▸ List.mem_map_of_mem (f := Par.id) hp')
    have ha' : firstQ l p.id = some a := by
     unfold firstQ at ha ⊢
     rw [List.find?_cons_of_neg (by simpa using hne)] at ha
     exact ha
    exact ih hn.2 hp' ha' h2'
theorem key_says {o1 o2 : List (Int × Int)} {l1 l2 : List Par} (hn : (idsQ l1).Nodup) (hi : ∀ p ∈ l1, idB p.id = true) {x : Itm} (h1 : x ∈ itmL o1 l1) (h2 : x ∉ itmL o2 l2) : KeyC o1 l1 o2 l2 x.1 := by
 unfold itmL at h1 h2
 rw [List.mem_append, List.mem_flatMap] at h1 h2
 rcases h1 with h | ⟨p, hp, hx⟩
 ·left
  refine ⟨?_, fun e => h2 (.inl (e ▸ h))⟩
  obtain ⟨k, -, e⟩ := mem_outL h
  exact ⟨_, by rw [e]⟩
 ·right
  refine ⟨p.id, ⟨.inl (List.mem_map_of_mem hp), fun ⟨a, e1, e2⟩ => ?_⟩, hi p hp, ?_⟩
  ·rw [firstQ_mem hn hp] at e1
   obtain rfl := Option.some.inj e1
   exact h2 (.inr ⟨p, (firstQ_id e2).2, hx⟩)
  ·rcases mem_onL hx with ⟨k, -, e⟩ | ⟨e, -, rfl⟩ | ⟨c, -, rfl⟩
   ·exact .inl ⟨_, e⟩
   ·exact .inr (.inl ⟨_, rfl⟩)
   ·exact .inr (.inr ⟨_, _, rfl⟩)
theorem KeyC.swap {o1 o2 : List (Int × Int)} {l1 l2 : List Par} {z : List UInt8} (h : KeyC o1 l1 o2 l2 z) : KeyC o2 l2 o1 l1 z := by
 rcases h with ⟨h1, h2⟩ | ⟨id, h1, h2, h3⟩
 ·exact .inl ⟨h1, fun e => h2 e.symm⟩
 ·exact .inr ⟨id, h1.swap, h2, h3⟩
theorem parts_say {o1 o2 : List (Int × Int)} {l1 l2 : List PV} (hc1 : CheckP o1 l1) (hc2 : CheckP o2 l2) {La Lb : List Itm} (ha : La.Perm (itmL o1 (l1.map PV.par))) (hb : Lb.Perm (itmL o2 (l2.map PV.par))) {z1 z2 : List (List UInt8)} (h1 : ∀ z, z ∈ z1 ↔ (lastIt La z).isSome = true) {z : List UInt8} (hz : z ∈ parts La Lb z1 z2) :
  KeyC o1 (l1.map PV.par) o2 (l2.map PV.par) z := by
 have hna : La.Pairwise KeyNe := (ha.pairwise_iff (fun {a b} h e => h e.symm)).2 (itmL_ne hc1)
 have hid : ∀ {o : List (Int × Int)} {l : List PV}, CheckP o l → (idsQ (l.map PV.par)).Nodup ∧ ∀ p ∈ l.map PV.par, idB p.id = true := fun h => by
  obtain ⟨h1, h2⟩ := check_ids h
  refine ⟨?_, fun p hp => ?_⟩
  ·unfold idsQ
   rw [List.map_map]
   exact List.pairwise_map.2 (h2.imp fun {a b} h e => by
    have e' : a.par.id = b.par.id := e
    omega)
  ·obtain ⟨x, hx, rfl⟩ := List.mem_map.1 hp
   exact (h1 x hx).1
 obtain ⟨v, h | h⟩ := parts_or hna h1 hz
 ·exact (key_says (hid hc2).1 (hid hc2).2 (hb.mem_iff.1 h.1) (fun e => h.2 (ha.mem_iff.2 e))).swap
 ·exact key_says (hid hc1).1 (hid hc1).2 (ha.mem_iff.1 h.1) (fun e => h.2 (hb.mem_iff.2 e))
theorem num_p {id : Int} (h : idB id = true) (b : UInt8) : nmV (112 :: (idK id ++ [b])) 1 4 = id.toNat ∧ nmE (112 :: (idK id ++ [b])) 1 4 = 0 := by
 have hl := idK_len id
 have he : nmE (112 :: (idK id ++ [b])) 1 4 = 0 := by
  unfold nmE
  rw [if_neg (by decide), if_neg (by rw [List.length_cons, List.length_append, hl, List.length_singleton]; decide)]
 refine ⟨?_, he⟩
 unfold nmV
 rw [if_pos he]
 show numL ((idK id ++ [b]).take 4) = _
 rw [← hl, List.take_left']
 ·unfold idB at h
  rw [Bool.and_eq_true, decide_eq_true_iff, decide_eq_true_iff] at h
  exact put_num (by omega)
 ·rfl
theorem num_c {id : Int} (h : idB id = true) (b c : UInt8) : nmV (99 :: b :: c :: idK id) 3 4 = id.toNat ∧ nmE (99 :: b :: c :: idK id) 3 4 = 0 := by
 have hl := idK_len id
 have he : nmE (99 :: b :: c :: idK id) 3 4 = 0 := by
  unfold nmE
  rw [if_neg (by decide), if_neg (by rw [List.length_cons, List.length_cons, List.length_cons, hl]; decide)]
 refine ⟨?_, he⟩
 unfold nmV
 rw [if_pos he]
 show numL ((idK id).take 4) = _
 rw [List.take_of_length_le (by rw [hl]; exact Nat.le_refl _)]
 unfold idB at h
 rw [Bool.and_eq_true, decide_eq_true_iff, decide_eq_true_iff] at h
 exact put_num (by omega)
end Go.Proofs.YtjlnjjmomohpaaaGreat

namespace Go.Proofs.YtjlnjjmomohpaaaGreat
open Go.RowKit Go.Lib

theorem parts_len {La Lb : List Itm} {z1 z2 : List (List UInt8)} (h1 : z1.length ≤ 100000) (h2 : z2.length ≤ 100000) : (putI La Lb z2).length ≤ 100000 ∧ (z1.filter fun z => (lastIt Lb z).isNone).length ≤ 100000 :=
 ⟨Nat.le_trans (List.length_filterMap_le _ _) h2, Nat.le_trans (List.length_filter_le _ _) h1⟩
theorem bl_len {zs : List (List UInt8)} {L : List Itm} (hp : zs.Pairwise (fun a b => bl a b = true)) (hm : ∀ z, z ∈ zs ↔ (lastIt L z).isSome = true) : zs.length ≤ L.length := by
 have h1 := cnt_all L zs (bl_nodup hp) hm (fun _ => true)
 rw [List.filter_eq_self.2 (fun _ _ => rfl)] at h1
 rw [← h1]
 exact cntL_le _ _ _
theorem itm_vals {o : List (Int × Int)} {l : List PV} (hc : CheckP o l) {x : Itm} (hx : x ∈ itmL o (l.map PV.par)) : x.2.length ≤ 128 := by
 have hchk : ∀ (r : List (Int × Int)) (k : Nat), (ptsB (chk r k)).length ≤ 128 := fun r k => by
  rw [ptsB_len]
  unfold chk
  have := List.length_take_le 16 (r.drop (16 * k))
  omega
 unfold itmL at hx
 rw [List.mem_append, List.mem_flatMap] at hx
 rcases hx with hx | ⟨p, hp, hx⟩
 ·obtain ⟨k, -, rfl⟩ := mem_outL hx
  exact hchk _ _
 ·obtain ⟨y, hy, rfl⟩ := List.mem_map.1 hp
  unfold onL at hx
  rw [List.mem_append, List.mem_append] at hx
  rcases hx with (hx | hx) | hx
  ·unfold parL at hx
   rcases List.mem_cons.1 hx with rfl | hx
   ·have h1 := ((check_ids hc).1 y hy).2.2
    show y.par.own.data.toList.length ≤ 128
    rw [Array.length_toList]
    have h2 : y.par.own.data.size ≤ 32 := h1
    omega
   ·obtain ⟨k, -, rfl⟩ := List.mem_map.1 hx
    exact hchk _ _
  ·obtain ⟨e, -, rfl⟩ := List.mem_map.1 hx
   show (idK _).length ≤ 128
   rw [idK_len]; decide
  ·obtain ⟨e, -, rfl⟩ := List.mem_map.1 hx
   exact Nat.zero_le _
set_option maxRecDepth 100000 in
set_option maxHeartbeats 8000000 in
theorem steps_walk (o : List (Int × Int)) (Ao : Option Addr) (co : Nat) (l : List PV) (Ap : Option Addr) (cp : Nat) (q : List (Int × Int)) (Bo : Option Addr) (do' : Nat) (m : List PV) (Bp : Option Addr) (dp : Nat) (ho : o.length ≤ 8796093022208) (hq : q.length ≤ 8796093022208) (hown : ∀ x ∈ l, x.par.own.size ≤ maxLen) (hown2 : ∀ x ∈ m, x.par.own.size ≤ maxLen) (w : World) (h : PlanAt w o Ao co l Ap cp) (h2 : PlanAt w q Bo do' m Bp dp) :
  Calls Tryz.prog 7 #[.agg #[.slice Ao o.length co, .slice Ap l.length cp], .agg #[.slice Bo q.length do', .slice Bp m.length dp]] w fun e w' => e = .returned (.bool true) ∧ Below w.heap.size w w' := by
 have HAN := Lib.hid (fun W => rec_answers W)
 have HF1 := Lib.hid (fun W (hb : Below w.heap.size w W) => few14_any o Ao co l Ap cp ho W (h.prs.on hb))
 have HF2 := Lib.hid (fun W (hb : Below w.heap.size w W) => few14_any q Bo do' m Bp dp hq W (h2.prs.on hb))
 have HO1 := Lib.hid (fun (hl : l.length ≤ 80) W (hb : Below w.heap.size w W) => Own_any o Ao co l Ap cp (by omega) W (h.on hb))
 have HO2 := Lib.hid (fun (hl : m.length ≤ 80) W (hb : Below w.heap.size w W) => Own_any q Bo do' m Bp dp (by omega) W (h2.on hb))
 have HC1 := Lib.hid (fun (hl : l.length ≤ 80) (ho : o.length ≤ 300) W (hb : Below w.heap.size w W) => ref_chk o Ao co l Ap cp (by omega) (by omega) hown W (h.on hb).prs (h.on hb).out)
 have HC2 := Lib.hid (fun (hl : m.length ≤ 80) (ho : q.length ≤ 300) W (hb : Below w.heap.size w W) => ref_chk q Bo do' m Bp dp (by omega) (by omega) hown2 W (h2.on hb).prs (h2.on hb).out)
 have HRC := Lib.hid (fun W (hb : Below w.heap.size w W) (h3 : l.length ≤ 80) (h4 : m.length ≤ 80) => ref_changed o Ao co l Ap cp q Bo do' m Bp dp (by omega) (by omega) W (h.prs.on hb) (h2.prs.on hb))
 have HSM := Lib.hid (fun W (hb : Below w.heap.size w W) => ref_same o q Ao Bo co do' (by unfold maxLen; omega) W (h.out.on hb) (h2.out.on hb))
 have HIT : Hid (∀ (o : List (Int × Int)) (l l' : List PV) (A1 : Option Addr) (c1 : Nat) (Ap1 : Option Addr) (cp1 : Nat) (W : World), CheckP o l → l'.map PV.par = l.map PV.par → PlanAt W o A1 c1 l' Ap1 cp1 → Calls Tryz.prog 11 #[.agg #[.slice A1 o.length c1, .slice Ap1 l.length cp1]] W fun e w' => ∃ A c li, e = .returned (.tuple #[.slice A li.length c, .int .i64 0]) ∧ Below W.heap.size W w' ∧ ItsAt w' A li ∧ (li.map IV.it).Perm (itmL o (l.map PV.par)) ∧ li.length ≤ 14000) := Lib.hid fun o l l' A1 c1 Ap1 cp1 W hc hm hp => by
  have h3 := Items_good o A1 c1 l' Ap1 cp1 (chk_par1 hm hc) W hp
  rw [par_len hm] at h3
  refine h3.mono fun e w' ⟨v, L, he, hpm, _, hr⟩ => ?_
  obtain ⟨A, c, li, rfl, hi, -, hmm⟩ := hr.its
  rw [hm] at hpm
  refine ⟨A, c, li, he, hr.below, hi, by rw [hmm]; exact hpm, ?_⟩
  have h4 := hpm.length_eq
  rw [← hmm, List.length_map] at h4
  rw [h4]
  exact itmL_len hc
 have HQ := ((Hold.refl w).new #[.slice Ao o.length co, .slice Ap l.length cp] 26).new #[.slice Bo q.length do', .slice Bp m.length dp] 26
 clear h h2 hown hown2 ho hq
 go_enter Tryz.func7, Tryz.ntmps7
 go_upto_region 1 with (fail)
 simp only [World.size_alloc] at HQ
 generalize (World.alloc _ _) = W1 at HQ ⊢
 obtain ⟨g1, hg1⟩ : ∃ g, w.heap.size + 1 = g := ⟨_, rfl⟩
 rw [hg1] at HQ ⊢
 obtain ⟨g0, hg0⟩ : ∃ g, w.heap.size = g := ⟨_, rfl⟩
 rw [hg0] at HQ ⊢
 clear hg0 hg1
 have HQX := Lib.hid HQ
 clear HQ
 go_wp2_with fail
 go_at_call 9
 refine (HAN.out _).mono ?_
 rintro e W2 ⟨rfl, hB⟩
 replace HQX := Lib.hid (HQX.out.on hB)
 clear hB
 obtain ⟨c0, c1⟩ := HQX.out.pt (.tail _ (.head _))
 obtain ⟨c2, c3⟩ := HQX.out.pt (.head _)
 go_wp2_with fail
 go_at_call 10
 refine (HF1.out _ HQX.out.1).mono ?_
 rintro e W3 ⟨b, rfl, hsm, hB⟩
 replace HQX := Lib.hid (HQX.out.on hB)
 clear hB c0 c1 c2 c3
 cases b
 ·go_wp2_with (go_at_call 9; go_must (refine (HAN.out _).mono ?_; rintro e' Wz ⟨rfl, hB⟩; have HBZ := Lib.hid (HQX.out.on hB).1; clear hB))
  go_ret
  exact ⟨rfl, HBZ.out⟩
 obtain ⟨s1, -, s3⟩ := hsm (by first | trivial | rfl)
 have H1 := Lib.hid (And.intro s3 s1)
 clear hsm s1 s3
 obtain ⟨c0, c1⟩ := HQX.out.pt (.tail _ (.head _))
 obtain ⟨c2, c3⟩ := HQX.out.pt (.head _)
 go_wp2_with fail
 go_at_call 10
 refine (HF2.out _ HQX.out.1).mono ?_
 rintro e W4 ⟨b, rfl, hsm, hB⟩
 replace HQX := Lib.hid (HQX.out.on hB)
 clear hB c0 c1 c2 c3
 cases b
 ·go_wp2_with (go_at_call 9; go_must (refine (HAN.out _).mono ?_; rintro e' Wz ⟨rfl, hB⟩; have HBZ := Lib.hid (HQX.out.on hB).1; clear hB))
  go_ret
  exact ⟨rfl, HBZ.out⟩
 obtain ⟨s1, -, s3⟩ := hsm (by first | trivial | rfl)
 have H2 := Lib.hid (And.intro s3 s1)
 clear hsm s1 s3
 obtain ⟨c0, c1⟩ := HQX.out.pt (.tail _ (.head _))
 obtain ⟨c2, c3⟩ := HQX.out.pt (.head _)
 obtain ⟨b, hb⟩ : ∃ b, chkB o l = b := ⟨_, rfl⟩
 have hck := HC1.out H1.out.1 H1.out.2 _ HQX.out.1
 rw [hb] at hck
 have HCK := Lib.hid hck
 have HB1 := Lib.hid hb
 clear hck hb
 go_wp2_with fail
 go_at_call 13
 refine HCK.out.mono ?_
 rintro e W5 ⟨rfl, hB⟩
 replace HQX := Lib.hid (HQX.out.on hB)
 clear hB c0 c1 c2 c3 HCK
 cases b
 ·go_wp2_with (go_at_call 9; go_must (refine (HAN.out _).mono ?_; rintro e' Wz ⟨rfl, hB⟩; have HBZ := Lib.hid (HQX.out.on hB).1; clear hB))
  go_ret
  exact ⟨rfl, HBZ.out⟩
 have HK1 := Lib.hid (chkB_iff.1 HB1.out)
 clear HB1
 obtain ⟨c0, c1⟩ := HQX.out.pt (.tail _ (.head _))
 obtain ⟨c2, c3⟩ := HQX.out.pt (.head _)
 obtain ⟨b, hb⟩ : ∃ b, chkB q m = b := ⟨_, rfl⟩
 have hck := HC2.out H2.out.1 H2.out.2 _ HQX.out.1
 rw [hb] at hck
 have HCK := Lib.hid hck
 have HB1 := Lib.hid hb
 clear hck hb
 go_wp2_with fail
 go_at_call 13
 refine HCK.out.mono ?_
 rintro e W6 ⟨rfl, hB⟩
 replace HQX := Lib.hid (HQX.out.on hB)
 clear hB c0 c1 c2 c3 HCK
 cases b
 ·go_wp2_with (go_at_call 9; go_must (refine (HAN.out _).mono ?_; rintro e' Wz ⟨rfl, hB⟩; have HBZ := Lib.hid (HQX.out.on hB).1; clear hB))
  go_ret
  exact ⟨rfl, HBZ.out⟩
 have HK2 := Lib.hid (chkB_iff.1 HB1.out)
 clear HB1 HC1 HC2 HF1 HF2 HAN
 obtain ⟨c0, c1⟩ := HQX.out.pt (.tail _ (.head _))
 go_wp2_with fail
 go_at_call 12
 refine (HO1.out H1.out.1 _ HQX.out.1).mono ?_
 rintro e W7 ⟨hB, A1, c1', l', P1, p1, rfl, hm, hp⟩
 replace HQX := Lib.hid (HQX.out.on hB)
 have HI := Lib.hid (HIT.out o l l' A1 c1' P1 p1 _ HK1.out hm hp)
 clear hB c0 c1 hm hp HO1
 go_wp2_with fail
 go_at_call 11
 refine HI.out.mono ?_
 rintro e W8 ⟨Aa, ca, la, rfl, hB, hi, hpm, hln⟩
 replace HQX := Lib.hid (HQX.out.on hB)
 have HIA := Lib.hid (fun W (hb : Below W8.heap.size W8 W) => hi.on hb)
 have HPA := Lib.hid (And.intro hpm hln)
 clear hB hi hpm hln HI
 obtain ⟨c2, c3⟩ := HQX.out.pt (.head _)
 go_wp2_with fail
 go_at_call 12
 refine (HO2.out H2.out.1 _ HQX.out.1).mono ?_
 rintro e W9 ⟨hB, A2, c2', m', P2, p2, rfl, hm, hp⟩
 replace HQX := Lib.hid (HQX.out.on hB)
 have HB89 := Lib.hid hB
 have HI := Lib.hid (HIT.out q m m' A2 c2' P2 p2 _ HK2.out hm hp)
 clear hB c2 c3 hm hp HO2
 go_wp2_with fail
 go_at_call 11
 refine HI.out.mono ?_
 rintro e W10 ⟨Ab, cb, lb, rfl, hB, hi, hpm, hln⟩
 replace HQX := Lib.hid (HQX.out.on hB)
 have HPB := Lib.hid (And.intro hpm hln)
 have HD := Lib.hid (Delta_any la lb Aa Ab ca cb (by have := HPA.out.2; omega) (by omega) (fun x hx => by
  have h3 := itm_vals HK2.out (hpm.mem_iff.1 (List.mem_map_of_mem (f := IV.it) hx))
  have h4 : x.val.length ≤ 128 := h3
  omega) W10 (HIA.out _ (HB89.out.trans (hB.mono HB89.out.size))) hi)
 clear hB hi hpm hln HI HIA
 go_wp2_with fail
 go_at_call 20
 refine HD.out.mono ?_
 rintro e W11 ⟨vp, vg, z1, z2, rfl, hp1, hm1, hp2, hm2, hrp, hrg⟩
 replace HQX := Lib.hid (HQX.out.on hrp.below)
 rw [putD_it] at hrp
 rw [goneL_it] at hrg
 have HZ1 : Hid (∀ z, z ∈ z1 ↔ (lastIt (la.map IV.it) z).isSome = true) := Lib.hid fun z => by rw [hm1, lastV_it]
 have HZ2 : Hid (∀ z, z ∈ z2 ↔ (lastIt (lb.map IV.it) z).isSome = true) := Lib.hid fun z => by rw [hm2, lastV_it]
 have HLN : Hid (z1.length ≤ 14000 ∧ z2.length ≤ 14000) := Lib.hid ⟨by
  have := bl_len hp1 HZ1.out
  rw [List.length_map] at this
  have := HPA.out.2
  omega, by
  have := bl_len hp2 HZ2.out
  rw [List.length_map] at this
  have := HPB.out.2
  omega⟩
 have HSAY : Hid (∀ z ∈ parts (la.map IV.it) (lb.map IV.it) z1 z2, KeyC o (l.map PV.par) q (m.map PV.par) z) := Lib.hid fun z hz => parts_say HK1.out HK2.out HPA.out.1 HPB.out.1 HZ1.out hz
 have HPL : Hid ((putI (la.map IV.it) (lb.map IV.it) z2).length ≤ 14000 ∧ (z1.filter fun z => (lastIt (lb.map IV.it) z).isNone).length ≤ 14000) := Lib.hid ⟨Nat.le_trans (List.length_filterMap_le _ _) HLN.out.2, Nat.le_trans (List.length_filter_le _ _) HLN.out.1⟩
 obtain ⟨PI, hPI⟩ : ∃ x, putI (la.map IV.it) (lb.map IV.it) z2 = x := ⟨_, rfl⟩
 obtain ⟨GI, hGI⟩ : ∃ x, (z1.filter fun z => (lastIt (lb.map IV.it) z).isNone) = x := ⟨_, rfl⟩
 unfold parts at HSAY
 rw [hPI, hGI] at HSAY HPL
 rw [hPI] at hrp
 rw [hGI] at hrg
 obtain ⟨Aq, cq, lp, rfl, hi, -, hmp⟩ := hrp.its
 have HIP := Lib.hid (fun W (hb : Below W11.heap.size W11 W) => hi.on hb)
 have HMP := Lib.hid hmp
 have HRG := Lib.hid hrg
 clear hPI hGI hp1 hm1 hp2 hm2 hrp hrg hi hmp HD HZ1 HZ2 HLN HPA HPB
 obtain ⟨c0, c1⟩ := HQX.out.pt (.tail _ (.head _))
 obtain ⟨c2, c3⟩ := HQX.out.pt (.head _)
 have HRX := Lib.hid (HRC.out _ HQX.out.1 H1.out.1 H2.out.1)
 go_upto_region 7 with (go_at_call 21; refine HRX.out.mono ?_; rintro e' W12 ⟨vc, zs, rfl, hrc, -, hmem⟩; have HRC2 := Lib.hid hrc; have HMEM := Lib.hid hmem; clear hrc hmem)
 replace HQX := Lib.hid (HQX.out.on HRC2.out.1)
 obtain ⟨Az, cz, rfl, hiz, -⟩ := HRC2.out.items
 have HZNA : Hid (zs.length ≤ 9223372036854775807) := Lib.hid (by
  rcases HRC2.out.2.2 with ⟨-, h0⟩ | ⟨_, cap9, _, -, -, -, h4, h5, -⟩
  ·omega
  ·unfold maxLen at h5; omega)
 have HIZ := Lib.hid (fun W (hb : Below W12.heap.size W12 W) => hiz.on hb)
 have HB12 := Lib.hid HRC2.out.1
 clear c0 c1 c2 c3 hiz HRC HRX
 obtain ⟨c0, c1⟩ := HQX.out.pt (.tail _ (.head _))
 obtain ⟨c2, c3⟩ := HQX.out.pt (.head _)
 obtain ⟨sm, hsm⟩ : ∃ b, decide (o = q) = b := ⟨_, rfl⟩
 have hsame := HSM.out _ HQX.out.1
 rw [hsm] at hsame
 have HSA := Lib.hid hsame
 have HSMV : Hid ((sm = true → o = q) ∧ (sm = false → o ≠ q)) := Lib.hid ⟨fun e => of_decide_eq_true (hsm.trans e), fun e => of_decide_eq_false (hsm.trans e)⟩
 clear hsame hsm HSM
 go_upto_region 9 with (go_at_call 22; refine HSA.out.mono ?_; rintro e' W13 ⟨rfl, hB⟩; have HB13 := Lib.hid hB; clear hB)
 replace HQX := Lib.hid (HQX.out.on HB13.out)
 have HB1113 := Lib.hid (HB12.out.trans (HB13.out.mono HB12.out.size))
 clear c0 c1 c2 c3 HSA
 go_wp2_with fail
 go_loopg [13, 14] lp.length (fun g v i wr => ∃ k : Nat, k ≤ lp.length ∧ g = lp.length - k ∧ i = .int .i64 (k : Int) ∧ KRow W13 v ((PI.map Prod.fst).take k) wr)
 case atStart => exact ⟨0, Nat.zero_le _, rfl, rfl, KRow.nil (Below.refl _ _)⟩
 case round =>
  obtain ⟨k, hk, hgk, rfl, hkr⟩ := hrel
  have HGK := Lib.hid hgk
  have HKR := Lib.hid hkr
  have HLP : Hid (lp.length = PI.length) := Lib.hid (by have h1 := congrArg List.length HMP.out; rw [List.length_map] at h1; exact h1)
  clear hgk hkr
  have HB11k := Lib.hid (HB1113.out.trans (HKR.out.below.mono HB1113.out.size))
  by_cases hlt : k < lp.length
  ·have b0 : (0 : Int) ≤ (k : Int) := by omega
   have b1 : (k : Int) < (lp.length : Int) := by omega
   have hk0 : IntKind.i64.wrap ((k : Int) + 1) = (k : Int) + 1 := IntWalk.i64_in _ (by have := HLP.out; have := HPL.out.1; omega)
   obtain ⟨ad, hA, c0, -⟩ := its_at (HIP.out _ HB11k.out) hlt
   have hx := (HIP.out _ HB11k.out).2 lp[k] (List.getElem_mem hlt)
   have HX : Hid (KAt wr ⟨lp[k].kA, lp[k].kc, lp[k].key⟩) := Lib.hid ⟨hx.key, hx.kcap.1, hx.kcap.2.1⟩
   have HT : Hid ((PI.map Prod.fst).take (k + 1) = (PI.map Prod.fst).take k ++ [lp[k].key]) := Lib.hid (by
    have hl2 : k < (PI.map Prod.fst).length := by rw [List.length_map, ← HLP.out]; exact hlt
    rw [List.take_succ_eq_append_getElem hl2]
    congr 2
    rw [List.getElem_map]
    simp only [← HMP.out, List.getElem_map]
    rfl)
   have HL1 : Hid (((PI.map Prod.fst).take k).length + 1 ≤ 1000000) := Lib.hid (by
    have h1 := List.length_take_le' k (PI.map Prod.fst)
    rw [List.length_map] at h1
    have := HPL.out.1
    omega)
   have HLT := Lib.hid hlt
   subst hA
   clear hx
   generalize lp[k].kA = kA at *
   generalize lp[k].kc = kc at *
   generalize lp[k].key = key at *
   clear hlt
   go_upto_region 12 with (fail)
   go_wp2_with (at_builtin; go_must (refine append_k HKR.out ⟨kA, kc, key⟩ HX.out _ rfl HL1.out rfl _ _ rfl rfl _ rfl ?_; rintro v10 W15 hR10 -; have HR10 := Lib.hid hR10; clear hR10))
   go_roundg (lp.length - (k + 1))
   case measure => have := HGK.out; have := HLT.out; omega
   case rel => exact ⟨k + 1, by have := HLT.out; omega, rfl, by go_num, by rw [HT.out]; exact HR10.out⟩
  ·obtain rfl : k = lp.length := by omega
   have HKR2 := HKR.out
   rw [List.take_of_length_le (by rw [List.length_map, HLP.out]; exact Nat.le_refl _)] at HKR2
   replace HKR2 := Lib.hid HKR2
   have HRG2 := Lib.hid (HRG.out.on HB11k.out)
   have HL2 : Hid ((PI.map Prod.fst).length + GI.length ≤ 1000000) := Lib.hid (by rw [List.length_map]; have := HPL.out; omega)
   clear HKR HRG
   go_upto_region 13 with (fail)
   go_upto_region 14 with (at_builtin; go_must (refine append_kk HKR2.out HRG2.out HL2.out rfl _ _ rfl rfl rfl ?_; rintro v14 W14 hR14 -; have HR14 := Lib.hid hR14; clear hR14))
   have HB1314 := Lib.hid HR14.out.below
   obtain ⟨Ak, ck, lk, rfl, hks, hmk⟩ := HR14.out.its
   have HKS := Lib.hid (fun W (hb : Below W14.heap.size W14 W) => hks.on hb)
   have HSK : Hid (∀ (k : Nat) (h : k < lk.length), KeyC o (l.map PV.par) q (m.map PV.par) lk[k].key) := Lib.hid fun k h => HSAY.out _ (by
    rw [← hmk]
    exact List.mem_map_of_mem (f := KV.key) (List.getElem_mem h))
   have HLK : Hid (lk.length ≤ 28000) := Lib.hid (by
    have h1 := congrArg List.length hmk
    rw [List.length_map, List.length_append, List.length_map] at h1
    have := HPL.out
    omega)
   have HZN : Hid (zs.length ≤ 9223372036854775807) := Lib.hid HZNA.out
   have HEND := Lib.hid (HQX.out.1.trans (HB1314.out.mono HQX.out.1.size))
   clear hks hmk
   go_wp2_with fail
   go_loopg [15] lk.length (fun g i wr => ∃ k : Nat, k ≤ lk.length ∧ g = lk.length - k ∧ i = .int .i64 (k : Int) ∧ Below W14.heap.size W14 wr)
   case atStart => exact ⟨0, Nat.zero_le _, rfl, rfl, Below.refl _ _⟩
   case round =>
    obtain ⟨k, hk, rfl, rfl, hBk⟩ := hrel
    have HBK := Lib.hid hBk
    clear hBk
    by_cases hlt : k < lk.length
    ·have b0 : (0 : Int) ≤ (k : Int) := by omega
     have b1 : (k : Int) < (lk.length : Int) := by omega
     have hk0 : IntKind.i64.wrap ((k : Int) + 1) = (k : Int) + 1 := IntWalk.i64_in _ (by have := HLK.out; omega)
     obtain ⟨ad, hA, c0⟩ := ks_at (HKS.out _ HBK.out) hlt
     have hx := (HKS.out _ HBK.out).2 lk[k] (List.getElem_mem hlt)
     have hsay := HSK.out k hlt
     have HLT := Lib.hid hlt
     generalize lk[k] = x at *
     clear hlt hk
     obtain ⟨kA, kc, key⟩ := x
     dsimp only at c0 hx hsay
     subst hA
     have hbt := hx.1.bytes
     dsimp only at hbt
     obtain ⟨n, hn⟩ : ∃ n, key.length = n := ⟨_, rfl⟩
     rw [hn] at c0
     have HNN := Lib.hid hn
     clear hx
     rcases hsay with ⟨⟨b, rfl⟩, hne⟩ | ⟨id, hch, hidb, hz⟩
     ·obtain ⟨kb, ko, rfl, hcc⟩ := hbt (by rw [List.length_cons]; omega)
      have k0 : wr.cell? ⟨kb, ko, none⟩ = some (.int .u8 111) := hcc 0 (by rw [List.length_cons]; omega)
      have hn0 : 0 < n := by rw [← hn, List.length_cons]; omega
      have hn1 : (0 : Int) < (n : Int) := by omega
      have hsm : sm = false := by
       cases sm
       ·rfl
       ·exact absurd (HSMV.out.1 rfl) hne
      subst hsm
      clear hbt hcc hne hn
      go_wp2_with fail
      go_roundg (lk.length - (k + 1))
      case measure => have := HLT.out; omega
      case rel => exact ⟨k + 1, by have := HLT.out; omega, rfl, by go_num, HBK.out⟩
     ·have HIN := Lib.hid ((HMEM.out id).2 hch)
      clear hch
      rcases hz with ⟨b, rfl⟩ | ⟨r, rfl⟩ | ⟨b, c, rfl⟩
      ·obtain ⟨kb, ko, rfl, hcc⟩ := hbt (by rw [hn]; rw [List.length_cons] at hn; omega)
       have k0 : wr.cell? ⟨kb, ko, none⟩ = some (.int .u8 112) := hcc 0 (by rw [List.length_cons]; omega)
       have HN6 : Hid (n = 6) := Lib.hid (by rw [← hn, List.length_cons, List.length_append, idK_len]; rfl)
       have hn0 : 0 < n := by have := HN6.out; omega
       have hn1 : (0 : Int) < (n : Int) := by omega
       clear hn
       have HNUM : Hid (Calls Tryz.prog 23 #[.slice (some ⟨kb, ko, none⟩) n kc, .int .i64 1, .int .i64 4] wr fun e w' => e = .returned (.tuple #[.int .i64 id, .int .i64 0]) ∧ w' = wr) := Lib.hid (by
        have h9 := ref_Num (c := kc) 1 4 hbt (by rw [HNN.out]; have := HN6.out; omega) (by decide)
        rw [(num_p hidb b).1, (num_p hidb b).2, HNN.out, Int.toNat_of_nonneg (by
         have := hidb
         unfold idB at this
         rw [Bool.and_eq_true, decide_eq_true_iff, decide_eq_true_iff] at this
         omega)] at h9
        exact h9)
       clear hbt hcc hidb
       go_upto_region 27 with (go_at_call 23; refine HNUM.out.mono ?_; rintro e' wz ⟨rfl, hwz⟩; have hwz := hwz.symm; subst hwz)
       clear HNUM
       go_wp2_with fail
       go_loopg [18, 19] zs.length (fun g f i wq => ∃ (j : Nat) (fb : Bool), f = .bool fb ∧ i = .int .i64 (j : Int) ∧ j ≤ zs.length ∧ g = zs.length - j ∧ Hid (Below W14.heap.size W14 wq) ∧ Hid (id ∈ zs.take j → fb = true))
       case atStart => exact ⟨0, false, rfl, rfl, Nat.zero_le _, rfl, HBK, Lib.hid (fun e => by cases e)⟩
       case round =>
        obtain ⟨j, fb, rfl, rfl, hj, rfl, HBJ, HFB⟩ := hrel
        by_cases hjl : j < zs.length
        ·have d0 : (0 : Int) ≤ (j : Int) := by omega
         have d1 : (j : Int) < (zs.length : Int) := by omega
         have dk : IntKind.i64.wrap ((j : Int) + 1) = (j : Int) + 1 := IntWalk.i64_in _ (by have := HZN.out; omega)
         have hat := (HIZ.out _ (HB13.out.trans ((HB1314.out.trans (HBJ.out.mono HB1314.out.size)).mono HB13.out.size))).at kindN.len hjl
         obtain ⟨az, hz1, -, hz2, -⟩ := hat
         have c9 := hz2 _ (by decide) rfl
         rw [Nat.mul_one] at c9
         have HTK : Hid (zs.take (j + 1) = zs.take j ++ [zs[j]]) := Lib.hid (List.take_succ_eq_append_getElem hjl)
         have HJL := Lib.hid hjl
         subst hz1
         clear hz2
         generalize zs[j] = zj at *
         clear hjl hj
         cases fb
         ·obtain ⟨b1, hb1⟩ : ∃ b, (zj == id) = b := ⟨_, rfl⟩
          have HFN : Hid (id ∈ zs.take (j + 1) → b1 = true) := Lib.hid fun e => by
           rw [HTK.out] at e
           rcases List.mem_append.1 e with e | e
           ·exact absurd (HFB.out e) (by decide)
           ·rw [← hb1, List.mem_singleton.1 e]; exact beq_self_eq_true _
          go_wp2_with fail
          go_roundg (zs.length - (j + 1))
          case measure => have := HJL.out; omega
          case rel => exact ⟨j + 1, b1, by first | rfl | trivial, by go_num, by have := HJL.out; omega, rfl, HBJ, HFN⟩
         ·go_wp2_with fail
          go_roundg (zs.length - (j + 1))
          case measure => have := HJL.out; omega
          case rel => exact ⟨j + 1, true, by first | rfl | trivial, by go_num, by have := HJL.out; omega, rfl, HBJ, Lib.hid (fun _ => rfl)⟩
        ·have hje : j = zs.length := by omega
         have HFT : Hid (fb = true) := Lib.hid (HFB.out (by rw [hje, List.take_length]; exact HIN.out))
         have d1 : ¬ (j : Int) < (zs.length : Int) := by omega
         have hft := HFT.out
         subst hft
         clear hje hj hjl
         go_wp2_with fail
         go_roundg (lk.length - (k + 1))
         case measure => have := HLT.out; omega
         case rel => exact ⟨k + 1, by have := HLT.out; omega, rfl, by go_num, HBJ.out⟩
      ·obtain ⟨kb, ko, rfl, hcc⟩ := hbt (by rw [List.length_cons]; omega)
       have k0 : wr.cell? ⟨kb, ko, none⟩ = some (.int .u8 101) := hcc 0 (by rw [List.length_cons]; omega)
       have hn0 : 0 < n := by rw [← hn, List.length_cons]; omega
       have hn1 : (0 : Int) < (n : Int) := by omega
       clear hn hbt hcc hidb
       go_wp2_with fail
       go_roundg (lk.length - (k + 1))
       case measure => have := HLT.out; omega
       case rel => exact ⟨k + 1, by have := HLT.out; omega, rfl, by go_num, HBK.out⟩
      ·obtain ⟨kb, ko, rfl, hcc⟩ := hbt (by rw [List.length_cons]; omega)
       have k0 : wr.cell? ⟨kb, ko, none⟩ = some (.int .u8 99) := hcc 0 (by rw [List.length_cons]; omega)
       have HN6 : Hid (n = 7) := Lib.hid (by rw [← hn, List.length_cons, List.length_cons, List.length_cons, idK_len])
       have hn0 : 0 < n := by have := HN6.out; omega
       have hn1 : (0 : Int) < (n : Int) := by omega
       clear hn
       have HNUM : Hid (Calls Tryz.prog 23 #[.slice (some ⟨kb, ko, none⟩) n kc, .int .i64 3, .int .i64 4] wr fun e w' => e = .returned (.tuple #[.int .i64 id, .int .i64 0]) ∧ w' = wr) := Lib.hid (by
        have h9 := ref_Num (c := kc) 3 4 hbt (by rw [HNN.out]; have := HN6.out; omega) (by decide)
        rw [(num_c hidb b c).1, (num_c hidb b c).2, HNN.out, Int.toNat_of_nonneg (by
         have := hidb
         unfold idB at this
         rw [Bool.and_eq_true, decide_eq_true_iff, decide_eq_true_iff] at this
         omega)] at h9
        exact h9)
       clear hbt hcc hidb
       go_upto_region 27 with (go_at_call 23; refine HNUM.out.mono ?_; rintro e' wz ⟨rfl, hwz⟩; have hwz := hwz.symm; subst hwz)
       clear HNUM
       go_wp2_with fail
       go_loopg [18, 19] zs.length (fun g f i wq => ∃ (j : Nat) (fb : Bool), f = .bool fb ∧ i = .int .i64 (j : Int) ∧ j ≤ zs.length ∧ g = zs.length - j ∧ Hid (Below W14.heap.size W14 wq) ∧ Hid (id ∈ zs.take j → fb = true))
       case atStart => exact ⟨0, false, rfl, rfl, Nat.zero_le _, rfl, HBK, Lib.hid (fun e => by cases e)⟩
       case round =>
        obtain ⟨j, fb, rfl, rfl, hj, rfl, HBJ, HFB⟩ := hrel
        by_cases hjl : j < zs.length
        ·have d0 : (0 : Int) ≤ (j : Int) := by omega
         have d1 : (j : Int) < (zs.length : Int) := by omega
         have dk : IntKind.i64.wrap ((j : Int) + 1) = (j : Int) + 1 := IntWalk.i64_in _ (by have := HZN.out; omega)
         have hat := (HIZ.out _ (HB13.out.trans ((HB1314.out.trans (HBJ.out.mono HB1314.out.size)).mono HB13.out.size))).at kindN.len hjl
         obtain ⟨az, hz1, -, hz2, -⟩ := hat
         have c9 := hz2 _ (by decide) rfl
         rw [Nat.mul_one] at c9
         have HTK : Hid (zs.take (j + 1) = zs.take j ++ [zs[j]]) := Lib.hid (List.take_succ_eq_append_getElem hjl)
         have HJL := Lib.hid hjl
         subst hz1
         clear hz2
         generalize zs[j] = zj at *
         clear hjl hj
         cases fb
         ·obtain ⟨b1, hb1⟩ : ∃ b, (zj == id) = b := ⟨_, rfl⟩
          have HFN : Hid (id ∈ zs.take (j + 1) → b1 = true) := Lib.hid fun e => by
           rw [HTK.out] at e
           rcases List.mem_append.1 e with e | e
           ·exact absurd (HFB.out e) (by decide)
           ·rw [← hb1, List.mem_singleton.1 e]; exact beq_self_eq_true _
          go_wp2_with fail
          go_roundg (zs.length - (j + 1))
          case measure => have := HJL.out; omega
          case rel => exact ⟨j + 1, b1, by first | rfl | trivial, by go_num, by have := HJL.out; omega, rfl, HBJ, HFN⟩
         ·go_wp2_with fail
          go_roundg (zs.length - (j + 1))
          case measure => have := HJL.out; omega
          case rel => exact ⟨j + 1, true, by first | rfl | trivial, by go_num, by have := HJL.out; omega, rfl, HBJ, Lib.hid (fun _ => rfl)⟩
        ·have hje : j = zs.length := by omega
         have HFT : Hid (fb = true) := Lib.hid (HFB.out (by rw [hje, List.take_length]; exact HIN.out))
         have d1 : ¬ (j : Int) < (zs.length : Int) := by omega
         have hft := HFT.out
         subst hft
         clear hje hj hjl
         go_wp2_with fail
         go_roundg (lk.length - (k + 1))
         case measure => have := HLT.out; omega
         case rel => exact ⟨k + 1, by have := HLT.out; omega, rfl, by go_num, HBJ.out⟩
    ·have b1 : ¬ (k : Int) < (lk.length : Int) := by omega
     have HFIN := Lib.hid (HEND.out.trans (HBK.out.mono HEND.out.size))
     by_cases hz0 : 0 < zs.length
     ·have hz1 : (0 : Int) < (zs.length : Int) := by omega
      clear hk
      go_wp2_with fail
      go_ret
      exact ⟨rfl, HFIN.out⟩
     ·have hz1 : ¬ (0 : Int) < (zs.length : Int) := by omega
      cases sm
      ·clear hk
       go_wp2_with fail
       go_ret
       exact ⟨rfl, HFIN.out⟩
      ·have hl0 : lk.length = 0 := by
        cases hlk : lk.length with
        |zero => rfl
        |succ n0 =>
         exfalso
         rcases HSK.out 0 (by omega) with ⟨-, hne⟩ | ⟨id, hch, -, -⟩
         ·exact hne (HSMV.out.1 rfl)
         ·have h8 := (HMEM.out id).2 hch
          have h7 : zs = [] := List.length_eq_zero_iff.1 (by omega)
          rw [h7] at h8
          cases h8
       rw [hl0] at b1 ⊢
       clear hk hl0
       go_wp2_with fail
       go_ret
       exact ⟨rfl, HFIN.out⟩
end Go.Proofs.YtjlnjjmomohpaaaGreat

set_option maxRecDepth 100000
namespace Go.Proofs.YtjlnjjmomohpaaaGreat.recordSteps
open Go.Joins Go.ChangeShapes Go.WideShapes Go.ChangeAt Go.RowKit

theorem contract (H : Type) (enc : TypeId × Value → H) (W : World) (base : Nat) (args : Array Value) (ds gs : List (DataW H)) (before : List MemPlace)
  (hval : ∀ (j : Nat) t v, Tryz.f7.params[j]? = some t → args[j]? = some v → Value.okWide Tryz.prog W .any base t v)
  (hW : DataW.Whole enc Tryz.prog Tryz.f7.params.toList Rows.recordStepsSpec.vars false W args.toList ds gs before)
  (hsz : (DataW.weightsEach Tryz.prog (Tryz.f7.params.toList ++ (OpenSpec.ofChange Rows.recordStepsSpec).bare.plain.varTypes Tryz.prog) (ds ++ gs)).all (· ≤ reachBytes) = true) :
  Calls Tryz.prog 7 args W fun e W' => ∃ v, e = .returned v ∧ Rows.recordStepsSpec.post enc Tryz.prog Tryz.f7 false true false false W args v W' := by
 have hW' := hW
 have hlt := fun p hp => hW.lt p hp
 obtain ⟨p, q, hA0, hV, rfl, -, -⟩ := hW
 have hA : DataW.TrodAll enc Tryz.prog W 0 (fun _ => true) true Tryz.f7.params.toList args.toList ds p := hA0
 rw [Tryz.params7] at hA hval
 obtain ⟨v0, vs0, d0, ds0, p0, q0, hargs, rfl, rfl, h0, r0⟩ := trodAll_cons hA
 obtain ⟨v1, vs1, d1, ds1, p1, q1, rfl, rfl, rfl, h1, r1⟩ := trodAll_cons r0
 obtain ⟨rfl, rfl, rfl⟩ := trodAll_nil r1
 obtain rfl : args = #[v0, v1] := by cases args; simp_all
 obtain ⟨rfl, rfl⟩ := trodVars_none hV
 have hl0 : ∀ q ∈ p0, q.block < W.heap.size := fun q hq => hlt q (by simp [hq])
 have hl1 : ∀ q ∈ p1, q.block < W.heap.size := fun q hq => hlt q (by simp [hq])
 obtain ⟨o, Ao, co, p, Ap, cp, rfl, hown, hpl⟩ := open_plan (hval 0 26 v0 rfl rfl) h0
 obtain ⟨hl, hat⟩ := hpl fun k hk => of_decide_eq_true (List.all_eq_true.1 hsz _ (DataW.weights_mem_each (j := 0) (t := 26) (by rw [Tryz.params7]; rfl) rfl k hk))
 obtain ⟨o2, Ao2, co2, p2, Ap2, cp2, rfl, hown2, hpl2⟩ := open_plan (hval 1 26 v1 rfl rfl) h1
 obtain ⟨hl2, hat2⟩ := hpl2 fun k hk => of_decide_eq_true (List.all_eq_true.1 hsz _ (DataW.weights_mem_each (j := 1) (t := 26) (by rw [Tryz.params7]; rfl) rfl k hk))
 clear hA0
 refine (steps_walk o Ao co p Ap cp o2 Ao2 co2 p2 Ap2 cp2 (by have := hat.room; omega) (by have := hat2.room; omega) hown hown2 W hat hat2).mono fun e W' ⟨he, hb⟩ => ?_
 subst he
 exact ⟨_, rfl, post_under (pa := (p0 ++ (p1 ++ []))) (pv := []) hW' (fun _ _ _ => trodAll_cons_mk (shut_bool Tryz.underlying4 _) trodAll_mk0)
  (fun _ hs => (trodAll_cons_mk (again (by kernel_rfl) (of_decide_eq_true (by kernel_rfl)) h0 hb hl0 (fun q hq => hs q (by simp [hq]))) (trodAll_cons_mk (again (by kernel_rfl) (of_decide_eq_true (by kernel_rfl)) h1 hb hl1 (fun q hq => hs q (by simp [hq]))) trodAll_mk0))) (fun _ _ => rfl) (by simp)
  hb (ok_one (by kernel_rfl) rfl (okWide_bool_mk Tryz.underlying4 _))⟩

noncomputable def wit : Array Value := #[.agg #[.slice none 0 0, .slice none 0 0], .agg #[.slice none 0 0, .slice none 0 0]]
theorem reads (os : Os) {H : Type} (enc : TypeId × Value → H) : ∃ places, DataW.whole enc Tryz.prog ((World.holding Tryz.prog os ⟨#[], #[], []⟩).forCall (fun _ _ => 0) ⟨#[], wit, []⟩).memory Tryz.f7.params.toList Rows.recordStepsSpec.vars false wit.toList 8 = some ([.agg [.nil, .nil], .agg [.nil, .nil]], [], places) :=
 ⟨[], by kernel_rfl⟩

theorem laid_met (os : Os) : laidMet Tryz.prog Rows.recordStepsRow.laid ((World.holding Tryz.prog os ⟨#[], #[], []⟩).forCall (fun _ _ => 0) ⟨#[], wit, []⟩).memory :=
 laidMet_of_run' 8 (by kernel_rfl) (by kernel_rfl)

set_option maxRecDepth 100000 in
theorem lifted (os : Os) (started : os.Started) (H : Type) (enc : TypeId × Value → H) (F : Stop.Interp) :
  ReturnsInHanded {} Tryz.checked os 7 .any ((OpenSpec.ofChange Rows.recordStepsSpec).preRow enc Tryz.prog Tryz.f7 Rows.recordStepsRow.domain false Rows.recordStepsRow.laid) (((OpenSpec.ofChange Rows.recordStepsSpec).at F).post enc Tryz.prog Tryz.f7 false true false false) := by
 obtain ⟨places, hx⟩ := reads os enc
 refine returnsInHanded_of_row (C := Tryz.checked) (s := OpenSpec.ofChange Rows.recordStepsSpec) own started (by kernel_rfl) Tryz.func7
  (witness_row_at (enc := enc) (C := Tryz.checked) false (World.holding Tryz.prog os ⟨#[], #[], []⟩) wit rfl (by kernel_rfl) (by kernel_rfl) (by kernel_rfl)
   (OpenSpec.preRow_of_cond 8 hx (by kernel_rfl) (fun k hk => by cases hk) (by kernel_rfl) (laid_met os))) ?_
 intro W base args ds gs before hval hW _ _ hsz _ _ _
 exact contract H enc W base args ds gs before hval hW hsz

theorem said : Rows.RecordStepsSaid :=
 OpenClaim.holds_of_cond 7 Tryz.f7 rfl rfl rfl rfl rfl rfl rfl ⟨rfl, rfl, rfl, rfl, rfl⟩ rfl rfl rfl rfl rfl (by kernel_rfl) Tryz.func7 (by kernel_rfl)
  (of_decide_eq_true (by kernel_rfl)) (by unfold Func.isWrapper; first | (rw [if_pos (by decide +kernel)]; kernel_rfl) | (rw [if_neg (by decide +kernel)]; exact ⟨rfl, rfl⟩))
  (fun os started H enc _ F => by rw [OpenClaim.pre_eq_preRow]; exact lifted os started H enc F)
end Go.Proofs.YtjlnjjmomohpaaaGreat.recordSteps
