/- The document's Split. -/
import Derived.Test.YtaedlfiafnbceaaGreatSplI
namespace Go.Proofs.YtaedlfiafnbceaaGreat
open Go.RowKit

theorem plc_none {α : Type} {l : List α} {a : α} {n : Int} (h : Plc l a n) (ha : a ∉ l) : n = -1 := by
 rcases h with ⟨rfl, -⟩ | ⟨i, rfl, h, -⟩
 ·rfl
 ·exact absurd (List.mem_of_getElem? h) ha
theorem ne_part2 {a b : Int × Int} (h : a ≠ b) : ¬ a.1 = b.1 ∨ (a.1 = b.1 ∧ ¬ a.2 = b.2) := by
 by_cases h1 : a.1 = b.1
 ·exact .inr ⟨h1, fun h2 => h (Prod.ext h1 h2)⟩
 ·exact .inl h1
def SdCut (w : World) (K : List (Nat × Array Value × TypeId)) (p : Prop) (s : Value) (wx : World) : Prop := ∃ bb : Bool, s = .bool bb ∧ (bb = false ↔ p) ∧ Hold w K wx
set_option maxRecDepth 100000 in
set_option maxHeartbeats 40000000 in
theorem ref_split (o : List (Int × Int)) (Ao : Option Addr) (co : Nat) (l : List PV) (Ap : Option Addr) (cp : Nat) (id : Int) (path : List (Int × Int)) (A : Option Addr) (ca : Nat) (fresh : Int) (hl : l.length ≤ 1000000) (ho : o.length ≤ 1000000000) (hown : ∀ x ∈ l, x.par.own.size ≤ maxLen) (hn : path.length * 16 ≤ 140737488355328) (hnA : NilOk A ca) (w : World) (h : PlanAt w o Ao co l Ap cp) (hq : Pts w w.heap.size A path) :
  Calls Tryz.prog 8 #[.agg #[.slice Ao o.length co, .slice Ap l.length cp], .int .i64 id, .slice A path.length ca, .int .i64 fresh] w fun e w' => SplitAt w w' o (l.map PV.par) id path fresh e := by
 have HCK := Lib.hid (fun K W (hh : Hold w K W) => (by
  have hx := ref_chk o Ao co l Ap cp hl ho hown W (h.on hh.1).prs (h.on hh.1).out
  rw [chkQ_of] at hx
  exact hx : Calls Tryz.prog 12 #[.agg #[.slice Ao o.length co, .slice Ap l.length cp]] W fun e' w' => e' = .returned (.bool (chkQ o (l.map PV.par))) ∧ Below W.heap.size W w'))
 have hids : (l.map fun x => x.par.id) = idsQ (l.map PV.par) := by unfold idsQ; rw [List.map_map]; rfl
 have HAT := Lib.hid (fun n K W (hh : Hold w K W) => ref_at o Ao co l Ap cp n hl W (h.prs.on hh.1))
 rw [hids] at HAT
 have HGD := Lib.hid (fun K W (hh : Hold w K W) => ref_good path A ca W (by unfold maxLen; omega) (hq.on hh.1))
 have HPP := Lib.hid (fun K W (hh : Hold w K W) => h.on hh.1)
 have HPA := Lib.hid (fun W (hb : Below w.heap.size w W) => hq.on hb)
 have HLN : Hid (path.length * 16 ≤ 140737488355328) := hn
 have HNA := Lib.hid hnA
 have HOW := Lib.hid hown
 have HQ := ((Hold.refl w).new #[.slice Ao o.length co, .slice Ap l.length cp] 26).new' #[.slice none 0 0, .slice none 0 0] 26 (n := w.heap.size + 1) (by simp)
 clear h hq hl ho hown hn hnA
 go_enter Tryz.func8, Tryz.ntmps8
 go_upto_region 1 with (fail)
 generalize (World.alloc _ _) = W1 at HQ ⊢
 generalize w.heap.size + 1 = g8 at HQ ⊢
 obtain ⟨g4, hg4⟩ : ∃ g, w.heap.size = g := ⟨_, rfl⟩
 rw [hg4] at HQ ⊢
 have HG4 := Lib.hid hg4
 clear hg4
 obtain ⟨c0, c1⟩ := HQ.pt (.tail _ (.head _))
 have HQ1 := Lib.hid HQ
 clear HQ
 go_wp2_with fail
 go_at_call 12
 refine (HCK.out _ _ HQ1.out).mono ?_
 rintro e' W2 ⟨rfl, hB⟩
 have HQ2 := Lib.hid (HQ1.out.on hB)
 clear c0 c1 hB HCK
 cases hck : chkQ o (l.map PV.par)
 ·have HE : Hid (sptE o (l.map PV.par) id path fresh = 2) := sp_form hck
  clear hck
  obtain ⟨c2, c3⟩ := HQ2.out.pt (.head _)
  obtain ⟨c4, c5⟩ := HQ2.out.fz (.head _)
  go_wp2
  have HE2 := HQ2.out.set2 (.slice none 0 0) (.slice none 0 0)
  obtain ⟨n0, n1⟩ := HE2.pt (.head _)
  refine bodyPost_ret (v := .tuple #[.agg #[.slice none 0 0, .slice none 0 0], .int .i64 2]) ?_ rfl ⟨HE2.1, .inl ⟨by rw [HE.out]; decide, by rw [HE.out]⟩⟩
  simp [results, Tryz.results8, go_sem, n0, n1]
 ·have HP : Hid (PlanQ o (l.map PV.par)) := (chkQ_iff _ _).1 hck
  have HK : Hid (chkQ o (l.map PV.par) = true) := hck
  clear hck
  obtain ⟨c0, c1⟩ := HQ2.out.pt (.tail _ (.head _))
  go_wp2_with fail
  go_at_call 15
  refine (HAT.out id _ _ HQ2.out).mono ?_
  rintro e' W3 ⟨n, rfl, hpl, hB⟩
  have HQ3 := Lib.hid (HQ2.out.on hB)
  clear c0 c1 hB
  by_cases hmi : id ∈ idsQ (l.map PV.par)
  case neg =>
   obtain rfl := plc_none hpl hmi
   have HE : Hid (sptE o (l.map PV.par) id path fresh = 5) := sp_none HK.out hmi
   clear hpl hmi
   obtain ⟨c2, c3⟩ := HQ3.out.pt (.head _)
   obtain ⟨c4, c5⟩ := HQ3.out.fz (.head _)
   go_wp2
   have HE2 := HQ3.out.set2 (.slice none 0 0) (.slice none 0 0)
   obtain ⟨n0, n1⟩ := HE2.pt (.head _)
   refine bodyPost_ret (v := .tuple #[.agg #[.slice none 0 0, .slice none 0 0], .int .i64 5]) ?_ rfl ⟨HE2.1, .inl ⟨by rw [HE.out]; decide, by rw [HE.out]⟩⟩
   simp [results, Tryz.results8, go_sem, n0, n1]
  obtain ⟨k, hkk⟩ : ∃ k : Nat, posL (idsQ (l.map PV.par)) id = k := ⟨_, rfl⟩
  have hn0 := plc_pos hpl hmi
  rw [hkk] at hn0
  subst hn0
  have hlt : k < l.length := by
   have := posL_lt hmi
   rw [hkk, ← hids, List.length_map] at this
   exact this
  have hid : l[k].par.id = id := by
   have := (posL_at hmi).1
   rw [hkk, ← hids, List.getElem?_map, List.getElem?_eq_getElem hlt] at this
   exact Option.some.inj this
  have HMI := Lib.hid hmi
  have HLT : Hid (k < l.length) := hlt
  have b0 : (0 : Int) ≤ (k : Int) := by omega
  have b1 : ¬ (k : Int) < 0 := by omega
  have b2 : (k : Int) < (l.length : Int) := by omega
  clear hpl hmi hkk hids
  go_wp2_with fail
  go_at_call 16
  refine (ref_id fresh _).mono ?_
  rintro e' W4 ⟨rfl, hB⟩
  have HQ4 := Lib.hid (HQ3.out.on hB)
  clear hB
  have hsp : ∀ e, ftE (idsQ (l.map PV.par)) (rgQ (l.map PV.par) id) path fresh = e → e ≠ 0 → sptE o (l.map PV.par) id path fresh = e := fun e h1 h2 => by rw [sp_fault HK.out HMI.out (by rw [h1]; exact h2), h1]
  have HSP := Lib.hid hsp
  clear hsp
  have hcase : idB fresh = false ∨ (idB fresh = true ∧ (path.length : Int) < 2) ∨ (idB fresh = true ∧ ¬ (path.length : Int) < 2 ∧ 128 < (path.length : Int)) ∨ (idB fresh = true ∧ ¬ (path.length : Int) < 2 ∧ ¬ 128 < (path.length : Int)) := by
   cases idB fresh
   ·exact .inl rfl
   ·refine .inr ?_
    by_cases h1 : (path.length : Int) < 2
    ·exact .inl ⟨rfl, h1⟩
    ·by_cases h2 : 128 < (path.length : Int)
     ·exact .inr (.inl ⟨rfl, h1, h2⟩)
     ·exact .inr (.inr ⟨rfl, h1, h2⟩)
  rcases hcase with h1 | ⟨h1, h2⟩ | ⟨h1, h2, h3⟩ | ⟨h1, h2, h3⟩
  ·have HE := Lib.hid (HSP.out 1 (ft_arg (ids := idsQ (l.map PV.par)) (r := rgQ (l.map PV.par) id) (path := path) (fresh := fresh) fun h => by have := h.1; rw [h1] at this; cases this) (by decide))
   rw [h1]
   clear h1
   obtain ⟨c2, c3⟩ := HQ4.out.pt (.head _)
   obtain ⟨c4, c5⟩ := HQ4.out.fz (.head _)
   go_wp2
   have HE2 := HQ4.out.set2 (.slice none 0 0) (.slice none 0 0)
   obtain ⟨n0, n1⟩ := HE2.pt (.head _)
   refine bodyPost_ret (v := .tuple #[.agg #[.slice none 0 0, .slice none 0 0], .int .i64 1]) ?_ rfl ⟨HE2.1, .inl ⟨by rw [HE.out]; decide, by rw [HE.out]⟩⟩
   simp [results, Tryz.results8, go_sem, n0, n1]
  ·have HE := Lib.hid (HSP.out 1 (ft_arg (ids := idsQ (l.map PV.par)) (r := rgQ (l.map PV.par) id) (path := path) (fresh := fresh) fun h => by omega) (by decide))
   have h2' : path.length < 2 := by omega
   rw [h1]
   clear h1
   obtain ⟨c2, c3⟩ := HQ4.out.pt (.head _)
   obtain ⟨c4, c5⟩ := HQ4.out.fz (.head _)
   go_wp2
   have HE2 := HQ4.out.set2 (.slice none 0 0) (.slice none 0 0)
   obtain ⟨n0, n1⟩ := HE2.pt (.head _)
   refine bodyPost_ret (v := .tuple #[.agg #[.slice none 0 0, .slice none 0 0], .int .i64 1]) ?_ rfl ⟨HE2.1, .inl ⟨by rw [HE.out]; decide, by rw [HE.out]⟩⟩
   simp [results, Tryz.results8, go_sem, n0, n1]
  ·have HE := Lib.hid (HSP.out 1 (ft_arg (ids := idsQ (l.map PV.par)) (r := rgQ (l.map PV.par) id) (path := path) (fresh := fresh) fun h => by omega) (by decide))
   have h2' : ¬ path.length < 2 := by omega
   have h3' : 128 < path.length := by omega
   rw [h1]
   clear h1
   obtain ⟨c2, c3⟩ := HQ4.out.pt (.head _)
   obtain ⟨c4, c5⟩ := HQ4.out.fz (.head _)
   go_wp2
   have HE2 := HQ4.out.set2 (.slice none 0 0) (.slice none 0 0)
   obtain ⟨n0, n1⟩ := HE2.pt (.head _)
   refine bodyPost_ret (v := .tuple #[.agg #[.slice none 0 0, .slice none 0 0], .int .i64 1]) ?_ rfl ⟨HE2.1, .inl ⟨by rw [HE.out]; decide, by rw [HE.out]⟩⟩
   simp [results, Tryz.results8, go_sem, n0, n1]
  ·have HI : Hid (idB fresh = true ∧ 2 ≤ path.length ∧ path.length ≤ 128) := ⟨h1, by omega, by omega⟩
   have h2' : ¬ path.length < 2 := by omega
   have h3' : ¬ 128 < path.length := by omega
   rw [h1]
   clear h1
   obtain ⟨c0, c1⟩ := HQ4.out.pt (.tail _ (.head _))
   go_wp2_with fail
   go_at_call 15
   refine (HAT.out fresh _ _ HQ4.out).mono ?_
   rintro e' W5 ⟨n5, rfl, hpl, hB⟩
   have HQ5 := Lib.hid (HQ4.out.on hB)
   clear c0 c1 hB h2 h3 h2' h3' HAT
   by_cases hmf : fresh ∈ idsQ (l.map PV.par)
   ·have hn5 := plc_pos hpl hmf
    subst hn5
    have HE := Lib.hid (HSP.out 6 (ft_there HI.out hmf) (by decide))
    have b3 : (0 : Int) ≤ ((posL (idsQ (l.map PV.par)) fresh : Nat) : Int) := by omega
    clear hpl hmf
    generalize posL (idsQ (l.map PV.par)) fresh = kf at *
    obtain ⟨c2, c3⟩ := HQ5.out.pt (.head _)
    obtain ⟨c4, c5⟩ := HQ5.out.fz (.head _)
    go_wp2
    have HE2 := HQ5.out.set2 (.slice none 0 0) (.slice none 0 0)
    obtain ⟨n0, n1⟩ := HE2.pt (.head _)
    refine bodyPost_ret (v := .tuple #[.agg #[.slice none 0 0, .slice none 0 0], .int .i64 6]) ?_ rfl ⟨HE2.1, .inl ⟨by rw [HE.out]; decide, by rw [HE.out]⟩⟩
    simp [results, Tryz.results8, go_sem, n0, n1]
   ·obtain rfl := plc_none hpl hmf
    have HMF := Lib.hid hmf
    clear hpl hmf
    go_wp2_with fail
    go_at_call 17
    refine (HGD.out _ _ HQ5.out).mono ?_
    rintro e' W6 ⟨rfl, hB⟩
    have HQ6 := Lib.hid (HQ5.out.on hB)
    clear hB HGD
    cases hgp : gdL path
    ·have HE := Lib.hid (HSP.out 3 (ft_range HI.out HMF.out hgp) (by decide))
     clear hgp
     obtain ⟨c2, c3⟩ := HQ6.out.pt (.head _)
     obtain ⟨c4, c5⟩ := HQ6.out.fz (.head _)
     go_wp2
     have HE2 := HQ6.out.set2 (.slice none 0 0) (.slice none 0 0)
     obtain ⟨n0, n1⟩ := HE2.pt (.head _)
     refine bodyPost_ret (v := .tuple #[.agg #[.slice none 0 0, .slice none 0 0], .int .i64 3]) ?_ rfl ⟨HE2.1, .inl ⟨by rw [HE.out]; decide, by rw [HE.out]⟩⟩
     simp [results, Tryz.results8, go_sem, n0, n1]
    ·have HGP := Lib.hid hgp
     clear hgp
     have hmx : l[k].par ∈ l.map PV.par := List.mem_map_of_mem (List.getElem_mem hlt)
     have hnx : NormP l[k].par.ring := HP.out.each _ hmx
     have hrg : rgQ (l.map PV.par) id = l[k].par.ring := HP.out.ring_of hmx hid
     obtain ⟨m, hm⟩ : ∃ m, path.length = m + 1 := ⟨path.length - 1, by have := HI.out.2.1; omega⟩
     have hga : Gd (pF path) := nx_gd HGP.out (by omega) 0
     have hgb : Gd (pL path) := nx_gd HGP.out (by omega) _
     have hsd : ∀ p, Gd p → sdV l[k].par.ring p = side l[k].par.ring p := fun p hp => sdV_side hnx hp
     have HF7 := Lib.hid (fun h4 => HSP.out 7 (ft_side HI.out HMF.out HGP.out h4) (by decide))
     have HF0 := Lib.hid (fun h4 => ft_ok (r := rgQ (l.map PV.par) id) HI.out HMF.out HGP.out h4)
     rw [hrg, hsd _ hga, hsd _ hgb] at HF7 HF0
     have HSD := Lib.hid (fun p (hp : Gd p) K W (hh : Hold w K W) => ref_side l[k].par.ring l[k].A l[k].cap p (by have := (HP.out.ringP hmx).2.2; unfold maxLen; omega) (HP.out.ringP hmx).2.1 hp W ((HPP.out _ _ hh).prs.2 _ (List.getElem_mem hlt)).1)
     obtain ⟨adp, hAP, -⟩ := (HPA.out _ HQ6.out.1).nx (k := 0) (i := 0) (Below.refl _ _) (by omega) (Nat.mod_eq_of_lt (by omega))
     subst hAP
     have HKP : Hid (∀ W, Below w.heap.size w W → (W.cell? adp = some (.int .i64 (pF path).1) ∧ W.cell? ⟨adp.block, adp.off + 1, none⟩ = some (.int .i64 (pF path).2)) ∧ (W.cell? (adp.add (m * 2)) = some (.int .i64 (pL path).1) ∧ W.cell? ⟨(adp.add (m * 2)).block, (adp.add (m * 2)).off + 1, none⟩ = some (.int .i64 (pL path).2))) := fun W hb => by
      obtain ⟨a1, e1, -, x0, x1⟩ := (HPA.out _ hb).nx (k := 0) (i := 0) (Below.refl _ _) (by omega) (Nat.mod_eq_of_lt (by omega))
      obtain rfl := Option.some.inj e1
      rw [Nat.zero_mul, add_zero_a] at x0 x1
      obtain ⟨a2, e2, -, x2, x3⟩ := (HPA.out _ hb).nx (k := m) (i := path.length - 1) (Below.refl _ _) (by omega) (by rw [Nat.mod_eq_of_lt (by omega)]; omega)
      obtain rfl := Option.some.inj e2
      exact ⟨⟨x0, x1⟩, x2, x3⟩
     obtain ⟨ad, hAD, -⟩ := (HPP.out _ _ HQ6.out).prs.at hlt
     subst hAD
     have HKX : Hid (∀ K W, Hold w K W → W.cell? ⟨(ad.add (k * 3)).block, (ad.add (k * 3)).off + 1, none⟩ = some (.slice l[k].A l[k].par.ring.length l[k].cap)) := fun K W hh => by
      obtain ⟨a1, e1, -, -, h2, -⟩ := (HPP.out _ _ hh).prs.at hlt
      obtain rfl := Option.some.inj e1
      exact h2
     have HXS := Lib.hid (HP.out.ringP hmx)
     have HMX := Lib.hid hmx
     have HNX := Lib.hid hnx
     have HOB := Lib.hid (fun (hf : ftE (idsQ (l.map PV.par)) (rgQ (l.map PV.par) id) path fresh = 0) => HP.out.onBoth hmx hid hf)
     have b3 : (0 : Int) ≤ (m : Int) := by omega
     have b4 : (m : Int) < (path.length : Int) := by omega
     have b5 : (0 : Int) < (path.length : Int) := by omega
     have b6 : IntKind.i64.wrap ((path.length : Int) - 1) = (m : Int) := by rw [IntKind.wrap_i64]; omega
     have b7 : 0 < path.length := by omega
     have HM : Hid (path.length = m + 1) := hm
     rw [hrg] at HOB
     have HRG := Lib.hid hrg
     clear hmx hnx hrg hsd hm
     obtain ⟨a, ha⟩ : ∃ a, pF path = a := ⟨_, rfl⟩
     obtain ⟨b, hb⟩ : ∃ b, pL path = b := ⟨_, rfl⟩
     have HFA := Lib.hid ha
     have HLB := Lib.hid hb
     rw [ha] at HF7 HF0 HKP hga
     rw [hb] at HF7 HF0 HKP hgb
     have HGA := Lib.hid hga
     have HGB := Lib.hid hgb
     clear ha hb hga hgb
     obtain ⟨xr, hxr⟩ : ∃ r, l[k].par.ring = r := ⟨_, rfl⟩
     obtain ⟨xA, hxA⟩ : ∃ r, l[k].A = r := ⟨_, rfl⟩
     obtain ⟨xc, hxc⟩ : ∃ r, l[k].cap = r := ⟨_, rfl⟩
     obtain ⟨own, hown⟩ : ∃ s, l[k].par.own = s := ⟨_, rfl⟩
     have hxk : (l.map PV.par)[k]? = some ⟨id, xr, own⟩ := by
      rw [List.getElem?_map, List.getElem?_eq_getElem hlt]
      show some l[k].par = _
      rw [← hid, ← hxr, ← hown]
      rfl
     have HXK := Lib.hid hxk
     have HOWN : Hid (own.size ≤ maxLen) := by unfold Hid; rw [← hown]; exact HOW.out _ (List.getElem_mem hlt)
     rw [hxr] at HF7 HF0 HSD HKX HXS HNX HOB HRG
     rw [hxA, hxc] at HSD HKX
     clear hxr hxA hxc hlt hid hown hxk
     have HKS : Hid (∀ K W, Hold w K W → (g4, #[.slice Ao o.length co, .slice (some ad) l.length cp], 26) ∈ K → (W.cell? ⟨g4, 0, none⟩ = some (.slice Ao o.length co) ∧ W.cell? ⟨g4, 1, none⟩ = some (.slice (some ad) l.length cp)) ∧ (W.cell? ⟨(ad.add (k * 3)).block, (ad.add (k * 3)).off + 1, none⟩ = some (.slice xA xr.length xc)) ∧ (W.cell? adp = some (.int .i64 a.1) ∧ W.cell? ⟨adp.block, adp.off + 1, none⟩ = some (.int .i64 a.2)) ∧ (W.cell? (adp.add (m * 2)) = some (.int .i64 b.1) ∧ W.cell? ⟨(adp.add (m * 2)).block, (adp.add (m * 2)).off + 1, none⟩ = some (.int .i64 b.2))) := fun K W hh hm => ⟨hh.pt hm, HKX.out K W hh, HKP.out W hh.1⟩
     have HS1 := Lib.hid (HSD.out a HGA.out)
     have HS2 := Lib.hid (HSD.out b HGB.out)
     clear HSD HKX
     generalize side xr a = s1 at *
     generalize side xr b = s2 at *
     have hH := HQ6.out.drew
     have hcase : ¬ s1 = 0 ∨ (s1 = 0 ∧ ¬ s2 = 0) ∨ (s1 = 0 ∧ s2 = 0 ∧ a = b) ∨ (s1 = 0 ∧ s2 = 0 ∧ ¬ a.1 = b.1) ∨ (s1 = 0 ∧ s2 = 0 ∧ a.1 = b.1 ∧ ¬ a.2 = b.2) := by
      by_cases h1 : s1 = 0
      ·by_cases h2 : s2 = 0
       ·by_cases h3 : a = b
        ·exact .inr (.inr (.inl ⟨h1, h2, h3⟩))
        ·rcases ne_part2 h3 with h | h
         ·exact .inr (.inr (.inr (.inl ⟨h1, h2, h⟩)))
         ·exact .inr (.inr (.inr (.inr ⟨h1, h2, h⟩)))
       ·exact .inr (.inl ⟨h1, h2⟩)
      ·exact .inl h1
     go_upto_region 13 with (fail)
     go_cut [88] (fun s wx => SdCut w [(g8, #[.slice none 0 0, .slice none 0 0], 26), (g4, #[.slice Ao o.length co, .slice (some ad) l.length cp], 26)] (a ≠ b ∧ s1 = 0 ∧ s2 = 0) s wx)
     case first => as_aux_lemma =>
      rcases hcase with h1 | ⟨h1, h2⟩ | ⟨h1, h2, h3⟩ | ⟨h1, h2, h3⟩ | ⟨h1, h2, h3, h4⟩
      ·have e1 : (s1 != 0) = true := by simpa using h1
       have H1 := Lib.hid h1
       clear h1
       refine wp_region_held_drew (S := fun W => (W.cell? ⟨g4, 0, none⟩ = some (.slice Ao o.length co) ∧ W.cell? ⟨g4, 1, none⟩ = some (.slice (some ad) l.length cp)) ∧ (W.cell? ⟨(ad.add (k * 3)).block, (ad.add (k * 3)).off + 1, none⟩ = some (.slice xA xr.length xc)) ∧ (W.cell? adp = some (.int .i64 a.1) ∧ W.cell? ⟨adp.block, adp.off + 1, none⟩ = some (.int .i64 a.2)) ∧ (W.cell? (adp.add (m * 2)) = some (.int .i64 b.1) ∧ W.cell? ⟨(adp.add (m * 2)).block, (adp.add (m * 2)).off + 1, none⟩ = some (.int .i64 b.2))) (by kernel_rfl) ?_ (fun hHeld => ?_)
       ·(try dsimp only)
        exact HKS.out _ _ hH (by simp)
       refine tZ 0 ?_; refine tZ 1 ?_; refine tZ 2 ?_; refine tZ 3 ?_; refine tZ 4 ?_; refine tZ 5 ?_; refine tZ 6 ?_; refine tZ 7 ?_; refine tZ 8 ?_
       refine wpAnyH_ready (rs := [9]) (by decide +kernel) (by simp) ?_
       refine AllReadyH.cons rfl (fun K hK => ?_) AllReadyH.nil
       (try simp only [jA, jB, jC])
       go_simp
       (go_at_call 18; refine (HS1.out _ _ hH).mono ?_; rintro e' W7 ⟨rfl, hB7⟩; have h7 := hH.on hB7)
       refine hK.out _ _ ?_ (fun hHeld => ?_)
       focus ((try dsimp only); exact HKS.out _ _ h7 (by simp); done)
       clear hK K
       (try simp only [Act.put, jA, jB, jC, jD, jE, jF])
       refine tZ 10 ?_; refine tZ 11 ?_; refine pZ 12 ?_; refine pZ 13 ?_; refine pZ 14 ?_; refine pZ 15 ?_; refine pZ 16 ?_; refine pZ 17 ?_; refine pZ 18 ?_; refine pZ 19 ?_; refine pZ 20 ?_; refine pZ 21 ?_; refine pZ 22 ?_; refine pZ 23 ?_; refine pZ 24 ?_; refine tZ 25 ?_; refine tZ 26 ?_; refine pZ 27 ?_; refine pZ 28 ?_; refine pZ 29 ?_; refine pZ 30 ?_; refine pZ 31 ?_; refine pZ 32 ?_; refine pZ 33 ?_; refine pZ 34 ?_; refine pZ 35 ?_; refine tZ 36 ?_
       refine wpAnyH_done (by decide +kernel) ?_ _
       go_wp2_with fail
       go_meet
       exact ⟨true, rfl, ⟨fun h => Bool.noConfusion h, fun h => absurd h.2.1 H1.out⟩, h7⟩
      ·have e1 : (s1 != 0) = false := by simp [h1]
       have H1 := Lib.hid h1
       have e2 : (s2 != 0) = true := by simpa using h2
       have H2 := Lib.hid h2
       clear h1 h2
       refine wp_region_held_drew (S := fun W => (W.cell? ⟨g4, 0, none⟩ = some (.slice Ao o.length co) ∧ W.cell? ⟨g4, 1, none⟩ = some (.slice (some ad) l.length cp)) ∧ (W.cell? ⟨(ad.add (k * 3)).block, (ad.add (k * 3)).off + 1, none⟩ = some (.slice xA xr.length xc)) ∧ (W.cell? adp = some (.int .i64 a.1) ∧ W.cell? ⟨adp.block, adp.off + 1, none⟩ = some (.int .i64 a.2)) ∧ (W.cell? (adp.add (m * 2)) = some (.int .i64 b.1) ∧ W.cell? ⟨(adp.add (m * 2)).block, (adp.add (m * 2)).off + 1, none⟩ = some (.int .i64 b.2))) (by kernel_rfl) ?_ (fun hHeld => ?_)
       ·(try dsimp only)
        exact HKS.out _ _ hH (by simp)
       refine tZ 0 ?_; refine tZ 1 ?_; refine tZ 2 ?_; refine tZ 3 ?_; refine tZ 4 ?_; refine tZ 5 ?_; refine tZ 6 ?_; refine tZ 7 ?_; refine tZ 8 ?_
       refine wpAnyH_ready (rs := [9]) (by decide +kernel) (by simp) ?_
       refine AllReadyH.cons rfl (fun K hK => ?_) AllReadyH.nil
       (try simp only [jA, jB, jC])
       go_simp
       (go_at_call 18; refine (HS1.out _ _ hH).mono ?_; rintro e' W7 ⟨rfl, hB7⟩; have h7 := hH.on hB7)
       refine hK.out _ _ ?_ (fun hHeld => ?_)
       focus ((try dsimp only); exact HKS.out _ _ h7 (by simp); done)
       clear hK K
       (try simp only [Act.put, jA, jB, jC, jD, jE, jF])
       refine tZ 10 ?_; refine tZ 11 ?_; refine tZ 12 ?_; refine tZ 13 ?_; refine tZ 14 ?_; refine tZ 15 ?_; refine tZ 16 ?_; refine tZ 17 ?_; refine tZ 18 ?_; refine tZ 19 ?_; refine tZ 20 ?_; refine tZ 21 ?_; refine tZ 22 ?_
       refine wpAnyH_ready (rs := [23]) (by decide +kernel) (by simp) ?_
       refine AllReadyH.cons rfl (fun K hK => ?_) AllReadyH.nil
       (try simp only [jA, jB, jC])
       go_simp
       (go_at_call 18; refine (HS2.out _ _ h7).mono ?_; rintro e' W8 ⟨rfl, hB8⟩; have h8 := h7.on hB8)
       refine hK.out _ _ ?_ (fun hHeld => ?_)
       focus ((try dsimp only); exact HKS.out _ _ h8 (by simp); done)
       clear hK K
       (try simp only [Act.put, jA, jB, jC, jD, jE, jF])
       refine tZ 24 ?_; refine tZ 25 ?_; refine tZ 26 ?_; refine pZ 27 ?_; refine pZ 28 ?_; refine pZ 29 ?_; refine pZ 30 ?_; refine pZ 31 ?_; refine pZ 32 ?_; refine pZ 33 ?_; refine pZ 34 ?_; refine pZ 35 ?_; refine tZ 36 ?_
       refine wpAnyH_done (by decide +kernel) ?_ _
       go_wp2_with fail
       go_meet
       exact ⟨true, rfl, ⟨fun h => Bool.noConfusion h, fun h => absurd h.2.2 H2.out⟩, h8⟩
      ·have e1 : (s1 != 0) = false := by simp [h1]
       have H1 := Lib.hid h1
       have e2 : (s2 != 0) = false := by simp [h2]
       have H2 := Lib.hid h2
       have e3 : (a.1 == b.1) = true := by rw [h3]; exact beq_self_eq_true _
       have e4 : (a.2 == b.2) = true := by rw [h3]; exact beq_self_eq_true _
       have H3 := Lib.hid h3
       clear h1 h2 h3
       refine wp_region_held_drew (S := fun W => (W.cell? ⟨g4, 0, none⟩ = some (.slice Ao o.length co) ∧ W.cell? ⟨g4, 1, none⟩ = some (.slice (some ad) l.length cp)) ∧ (W.cell? ⟨(ad.add (k * 3)).block, (ad.add (k * 3)).off + 1, none⟩ = some (.slice xA xr.length xc)) ∧ (W.cell? adp = some (.int .i64 a.1) ∧ W.cell? ⟨adp.block, adp.off + 1, none⟩ = some (.int .i64 a.2)) ∧ (W.cell? (adp.add (m * 2)) = some (.int .i64 b.1) ∧ W.cell? ⟨(adp.add (m * 2)).block, (adp.add (m * 2)).off + 1, none⟩ = some (.int .i64 b.2))) (by kernel_rfl) ?_ (fun hHeld => ?_)
       ·(try dsimp only)
        exact HKS.out _ _ hH (by simp)
       refine tZ 0 ?_; refine tZ 1 ?_; refine tZ 2 ?_; refine tZ 3 ?_; refine tZ 4 ?_; refine tZ 5 ?_; refine tZ 6 ?_; refine tZ 7 ?_; refine tZ 8 ?_
       refine wpAnyH_ready (rs := [9]) (by decide +kernel) (by simp) ?_
       refine AllReadyH.cons rfl (fun K hK => ?_) AllReadyH.nil
       (try simp only [jA, jB, jC])
       go_simp
       (go_at_call 18; refine (HS1.out _ _ hH).mono ?_; rintro e' W7 ⟨rfl, hB7⟩; have h7 := hH.on hB7)
       refine hK.out _ _ ?_ (fun hHeld => ?_)
       focus ((try dsimp only); exact HKS.out _ _ h7 (by simp); done)
       clear hK K
       (try simp only [Act.put, jA, jB, jC, jD, jE, jF])
       refine tZ 10 ?_; refine tZ 11 ?_; refine tZ 12 ?_; refine tZ 13 ?_; refine tZ 14 ?_; refine tZ 15 ?_; refine tZ 16 ?_; refine tZ 17 ?_; refine tZ 18 ?_; refine tZ 19 ?_; refine tZ 20 ?_; refine tZ 21 ?_; refine tZ 22 ?_
       refine wpAnyH_ready (rs := [23]) (by decide +kernel) (by simp) ?_
       refine AllReadyH.cons rfl (fun K hK => ?_) AllReadyH.nil
       (try simp only [jA, jB, jC])
       go_simp
       (go_at_call 18; refine (HS2.out _ _ h7).mono ?_; rintro e' W8 ⟨rfl, hB8⟩; have h8 := h7.on hB8)
       refine hK.out _ _ ?_ (fun hHeld => ?_)
       focus ((try dsimp only); exact HKS.out _ _ h8 (by simp); done)
       clear hK K
       (try simp only [Act.put, jA, jB, jC, jD, jE, jF])
       refine tZ 24 ?_; refine tZ 25 ?_; refine tZ 26 ?_; refine tZ 27 ?_; refine tZ 28 ?_; refine tZ 29 ?_; refine tZ 30 ?_; refine tZ 31 ?_; refine tZ 32 ?_; refine tZ 33 ?_; refine tZ 34 ?_; refine tZ 35 ?_; refine tZ 36 ?_
       refine wpAnyH_done (by decide +kernel) ?_ _
       go_wp2_with fail
       go_meet
       exact ⟨true, rfl, ⟨fun h => Bool.noConfusion h, fun h => absurd H3.out h.1⟩, h8⟩
      ·have e1 : (s1 != 0) = false := by simp [h1]
       have H1 := Lib.hid h1
       have e2 : (s2 != 0) = false := by simp [h2]
       have H2 := Lib.hid h2
       have e3 : (a.1 == b.1) = false := by simpa using h3
       have H3 := Lib.hid h3
       clear h1 h2 h3
       refine wp_region_held_drew (S := fun W => (W.cell? ⟨g4, 0, none⟩ = some (.slice Ao o.length co) ∧ W.cell? ⟨g4, 1, none⟩ = some (.slice (some ad) l.length cp)) ∧ (W.cell? ⟨(ad.add (k * 3)).block, (ad.add (k * 3)).off + 1, none⟩ = some (.slice xA xr.length xc)) ∧ (W.cell? adp = some (.int .i64 a.1) ∧ W.cell? ⟨adp.block, adp.off + 1, none⟩ = some (.int .i64 a.2)) ∧ (W.cell? (adp.add (m * 2)) = some (.int .i64 b.1) ∧ W.cell? ⟨(adp.add (m * 2)).block, (adp.add (m * 2)).off + 1, none⟩ = some (.int .i64 b.2))) (by kernel_rfl) ?_ (fun hHeld => ?_)
       ·(try dsimp only)
        exact HKS.out _ _ hH (by simp)
       refine tZ 0 ?_; refine tZ 1 ?_; refine tZ 2 ?_; refine tZ 3 ?_; refine tZ 4 ?_; refine tZ 5 ?_; refine tZ 6 ?_; refine tZ 7 ?_; refine tZ 8 ?_
       refine wpAnyH_ready (rs := [9]) (by decide +kernel) (by simp) ?_
       refine AllReadyH.cons rfl (fun K hK => ?_) AllReadyH.nil
       (try simp only [jA, jB, jC])
       go_simp
       (go_at_call 18; refine (HS1.out _ _ hH).mono ?_; rintro e' W7 ⟨rfl, hB7⟩; have h7 := hH.on hB7)
       refine hK.out _ _ ?_ (fun hHeld => ?_)
       focus ((try dsimp only); exact HKS.out _ _ h7 (by simp); done)
       clear hK K
       (try simp only [Act.put, jA, jB, jC, jD, jE, jF])
       refine tZ 10 ?_; refine tZ 11 ?_; refine tZ 12 ?_; refine tZ 13 ?_; refine tZ 14 ?_; refine tZ 15 ?_; refine tZ 16 ?_; refine tZ 17 ?_; refine tZ 18 ?_; refine tZ 19 ?_; refine tZ 20 ?_; refine tZ 21 ?_; refine tZ 22 ?_
       refine wpAnyH_ready (rs := [23]) (by decide +kernel) (by simp) ?_
       refine AllReadyH.cons rfl (fun K hK => ?_) AllReadyH.nil
       (try simp only [jA, jB, jC])
       go_simp
       (go_at_call 18; refine (HS2.out _ _ h7).mono ?_; rintro e' W8 ⟨rfl, hB8⟩; have h8 := h7.on hB8)
       refine hK.out _ _ ?_ (fun hHeld => ?_)
       focus ((try dsimp only); exact HKS.out _ _ h8 (by simp); done)
       clear hK K
       (try simp only [Act.put, jA, jB, jC, jD, jE, jF])
       refine tZ 24 ?_; refine tZ 25 ?_; refine tZ 26 ?_; refine tZ 27 ?_; refine tZ 28 ?_; refine tZ 29 ?_; refine tZ 30 ?_; refine tZ 31 ?_; refine tZ 32 ?_; refine tZ 33 ?_; refine tZ 34 ?_; refine tZ 35 ?_; refine tZ 36 ?_
       refine wpAnyH_done (by decide +kernel) ?_ _
       go_wp2_with fail
       go_meet
       exact ⟨false, rfl, ⟨fun _ => ⟨fun e => H3.out (by rw [e]), H1.out, H2.out⟩, fun _ => rfl⟩, h8⟩
      ·have e1 : (s1 != 0) = false := by simp [h1]
       have H1 := Lib.hid h1
       have e2 : (s2 != 0) = false := by simp [h2]
       have H2 := Lib.hid h2
       have e3 : (a.1 == b.1) = true := by simpa using h3
       have e4 : (a.2 == b.2) = false := by simpa using h4
       have H3 := Lib.hid h4
       clear h1 h2 h3 h4
       refine wp_region_held_drew (S := fun W => (W.cell? ⟨g4, 0, none⟩ = some (.slice Ao o.length co) ∧ W.cell? ⟨g4, 1, none⟩ = some (.slice (some ad) l.length cp)) ∧ (W.cell? ⟨(ad.add (k * 3)).block, (ad.add (k * 3)).off + 1, none⟩ = some (.slice xA xr.length xc)) ∧ (W.cell? adp = some (.int .i64 a.1) ∧ W.cell? ⟨adp.block, adp.off + 1, none⟩ = some (.int .i64 a.2)) ∧ (W.cell? (adp.add (m * 2)) = some (.int .i64 b.1) ∧ W.cell? ⟨(adp.add (m * 2)).block, (adp.add (m * 2)).off + 1, none⟩ = some (.int .i64 b.2))) (by kernel_rfl) ?_ (fun hHeld => ?_)
       ·(try dsimp only)
        exact HKS.out _ _ hH (by simp)
       refine tZ 0 ?_; refine tZ 1 ?_; refine tZ 2 ?_; refine tZ 3 ?_; refine tZ 4 ?_; refine tZ 5 ?_; refine tZ 6 ?_; refine tZ 7 ?_; refine tZ 8 ?_
       refine wpAnyH_ready (rs := [9]) (by decide +kernel) (by simp) ?_
       refine AllReadyH.cons rfl (fun K hK => ?_) AllReadyH.nil
       (try simp only [jA, jB, jC])
       go_simp
       (go_at_call 18; refine (HS1.out _ _ hH).mono ?_; rintro e' W7 ⟨rfl, hB7⟩; have h7 := hH.on hB7)
       refine hK.out _ _ ?_ (fun hHeld => ?_)
       focus ((try dsimp only); exact HKS.out _ _ h7 (by simp); done)
       clear hK K
       (try simp only [Act.put, jA, jB, jC, jD, jE, jF])
       refine tZ 10 ?_; refine tZ 11 ?_; refine tZ 12 ?_; refine tZ 13 ?_; refine tZ 14 ?_; refine tZ 15 ?_; refine tZ 16 ?_; refine tZ 17 ?_; refine tZ 18 ?_; refine tZ 19 ?_; refine tZ 20 ?_; refine tZ 21 ?_; refine tZ 22 ?_
       refine wpAnyH_ready (rs := [23]) (by decide +kernel) (by simp) ?_
       refine AllReadyH.cons rfl (fun K hK => ?_) AllReadyH.nil
       (try simp only [jA, jB, jC])
       go_simp
       (go_at_call 18; refine (HS2.out _ _ h7).mono ?_; rintro e' W8 ⟨rfl, hB8⟩; have h8 := h7.on hB8)
       refine hK.out _ _ ?_ (fun hHeld => ?_)
       focus ((try dsimp only); exact HKS.out _ _ h8 (by simp); done)
       clear hK K
       (try simp only [Act.put, jA, jB, jC, jD, jE, jF])
       refine tZ 24 ?_; refine tZ 25 ?_; refine tZ 26 ?_; refine tZ 27 ?_; refine tZ 28 ?_; refine tZ 29 ?_; refine tZ 30 ?_; refine tZ 31 ?_; refine tZ 32 ?_; refine tZ 33 ?_; refine tZ 34 ?_; refine tZ 35 ?_; refine tZ 36 ?_
       refine wpAnyH_done (by decide +kernel) ?_ _
       go_wp2_with fail
       go_meet
       exact ⟨false, rfl, ⟨fun _ => ⟨fun e => H3.out (by rw [e]), H1.out, H2.out⟩, fun _ => rfl⟩, h8⟩
     case rest =>
      obtain ⟨bb, rfl, hbb, hq9⟩ := hcut
      have HQ9 := Lib.hid hq9
      clear hcase hH hq9
      cases bb
      case true =>
       have HE := Lib.hid (HF7.out fun h => Bool.noConfusion (hbb.2 h))
       clear hbb
       obtain ⟨c2, c3⟩ := HQ9.out.pt (.head _)
       obtain ⟨c4, c5⟩ := HQ9.out.fz (.head _)
       go_wp2
       have HE2 := HQ9.out.set2 (.slice none 0 0) (.slice none 0 0)
       obtain ⟨n0, n1⟩ := HE2.pt (.head _)
       refine bodyPost_ret (v := .tuple #[.agg #[.slice none 0 0, .slice none 0 0], .int .i64 7]) ?_ rfl ⟨HE2.1, .inl ⟨by rw [HE.out]; decide, by rw [HE.out]⟩⟩
       simp [results, Tryz.results8, go_sem, n0, n1]
      have hgood := hbb.1 rfl
      have HNE := Lib.hid hgood.1
      have HF := Lib.hid (HF0.out hgood)
      clear hbb hgood HF7 HF0 HS1 HS2 HSP
      have HI1 := Lib.hid (fun K W (hh : Hold w K W) => ins_snd o Ao co l (some ad) cp a HP.out.snd (by decide) HGA.out W (HPP.out _ _ hh))
      have HI2 := Lib.hid (fun D1 d1 l1 Dp1 dp1 (hm1 : l1.map PV.par = (l.map PV.par).map (ptP a)) W (hp : PlanAt W (putC o a) D1 d1 l1 Dp1 dp1) => (by
       have hx := ins_snd (n := 129) (putC o a) D1 d1 l1 Dp1 dp1 b (by rw [hm1]; exact HP.out.snd.put HGA.out) (by decide) HGB.out W hp
       have e1 : putC (putC o a) b = putE o path := by unfold putE; rw [HFA.out, HLB.out]
       have e2 : (l1.map PV.par).map (ptP b) = (l.map PV.par).map (putP path) := by
        rw [hm1, List.map_map]
        refine List.map_congr_left fun x _ => ?_
        show ptP b (ptP a x) = putP path x
        unfold ptP putP putE
        rw [HFA.out, HLB.out]
       rw [e1, e2] at hx
       exact hx : Calls Tryz.prog 19 #[.agg #[.slice D1 (putC o a).length d1, .slice Dp1 l1.length dp1], .agg #[.int .i64 b.1, .int .i64 b.2]] W fun e w' => OwnP W w' (putE o path) ((l.map PV.par).map (putP path)) e))
      have HL1 := Lib.hid (fun (l1 : List PV) (hm1 : l1.map PV.par = (l.map PV.par).map (ptP a)) => (by
       have h1 := HP.out.snd.put HGA.out
       refine ⟨by have := h1.1.2.2.1; omega, fun x hx => ?_⟩
       have h2 : x.par ∈ (l.map PV.par).map (ptP a) := by rw [← hm1]; exact List.mem_map_of_mem hx
       have := (h1.2.1 _ h2).2.2.1
       omega : (putC o a).length ≤ 1000 ∧ ∀ x ∈ l1, x.par.ring.length ≤ 1000))
      go_upto_region 15 with (fail)
      go_cut [12] (fun s wx => ∃ g12 D2 d2 l2 Dp2 dp2, s = .pointer (some ⟨g12, 0, none⟩) ∧ l2.map PV.par = (l.map PV.par).map (putP path) ∧ Og w D2 (putE o path) d2 Dp2 l2.length l2 dp2 g12 [(g8, #[Value.slice none 0 0, Value.slice none 0 0], 26), (g4, #[.slice Ao o.length co, .slice (some ad) l.length cp], 26)] wx)
      case first =>
       clear HF
       as_aux_lemma =>
        have hH := HQ9.out.drew
        refine wp_region_held_drew (S := fun W => (W.cell? ⟨g4, 0, none⟩ = some (.slice Ao o.length co) ∧ W.cell? ⟨g4, 1, none⟩ = some (.slice (some ad) l.length cp)) ∧ (W.cell? adp = some (.int .i64 a.1) ∧ W.cell? ⟨adp.block, adp.off + 1, none⟩ = some (.int .i64 a.2)) ∧ (W.cell? (adp.add (m * 2)) = some (.int .i64 b.1) ∧ W.cell? ⟨(adp.add (m * 2)).block, (adp.add (m * 2)).off + 1, none⟩ = some (.int .i64 b.2))) (by kernel_rfl) ?_ (fun hHeld => ?_)
        ·(try dsimp only)
         (have hx := HKS.out _ _ (hH) (by simp); exact ⟨hx.1, hx.2.2.1, hx.2.2.2⟩)
        refine tZ 0 ?_; refine tZ 1 ?_; refine tZ 2 ?_; refine tZ 3 ?_; refine tZ 5 ?_; refine tZ 6 ?_; refine tZ 7 ?_; refine tZ 8 ?_; refine tZ 9 ?_
        refine wpAnyH_ready (rs := [4, 11]) (by decide +kernel) (by simp) ?_
        refine AllReadyH.cons rfl (fun K hK => ?_) (AllReadyH.cons rfl (fun K hK => ?_) AllReadyH.nil)
        ·(try simp only [jA, jB, jC])
         go_simp
         go_at_call 19
         refine (HI1.out _ _ (hH)).mono ?_
         rintro e' W5 ⟨hB5, D1, d1, l1, Dp1, dp1, rfl, hm1, hr1, hv1, hrs1⟩
         have h5 := Hold.on (hH) hB5
         have hp5 := planAt_of hr1 hv1 hrs1 (HL1.out l1 hm1).1 (HL1.out l1 hm1).2
         refine hK.out _ _ ?_ (fun hHeld => ?_)
         focus ((try dsimp only); (have hx := HKS.out _ _ (h5) (by simp); exact ⟨hx.1, hx.2.2.1, hx.2.2.2⟩); done)
         clear hK K
         (try simp only [Act.put, jA, jB, jC, jD, jE, jF])
         refine wpAnyH_ready (rs := [10, 11]) (by decide +kernel) (by simp) ?_
         refine AllReadyH.cons rfl (fun K hK => ?_) (AllReadyH.cons rfl (fun K hK => ?_) AllReadyH.nil)
         ·(try simp only [jA, jB, jC])
          go_simp
          go_at_call 19
          refine (HI2.out _ _ _ _ _ hm1 _ (hp5)).mono ?_
          rintro e' W6 ⟨hB6, D2, d2, l2, Dp2, dp2, rfl, hm2, hr2, hv2, hrs2⟩
          have h6 := Hold.on (h5) hB6
          have r2 := Row.base hr2 (h5).1
          have v2 := RowI.base hv2 (h5).1
          have s2 := OwnRs.base hrs2 (h5).1
          refine hK.out _ _ ?_ (fun hHeld => ?_)
          focus ((try dsimp only); (have hx := HKS.out _ _ (h6) (by simp); exact ⟨hx.1, hx.2.2.1, hx.2.2.2⟩); done)
          clear hK K
          (try simp only [Act.put, jA, jB, jC, jD, jE, jF])
          refine wpAnyH_ready (rs := [11]) (by decide +kernel) (by simp) ?_
          refine AllReadyH.cons rfl (fun K hK => ?_) AllReadyH.nil
          (try simp only [jA, jB, jC])
          go_simp
          refine hK.out _ _ ?_ (fun hHeld => ?_)
          focus ((try dsimp only); (have hx := HKS.out _ _ (h6.new #[.slice none 0 0, .slice none 0 0] 26) (by simp); exact ⟨hx.1, hx.2.2.1, hx.2.2.2⟩); done)
          clear hK K
          (try simp only [Act.put, jA, jB, jC, jD, jE, jF])
          have h12 := Og.mkNew h6 r2 v2 s2
          refine wpAnyH_ready (rs := [12]) (by decide +kernel) (by simp) ?_
          refine AllReadyH.cons rfl (fun K hK => ?_) AllReadyH.nil
          (try simp only [jA, jB, jC])
          go_simp
          refine hK.out _ _ ?_ (fun hHeld => ?_)
          focus ((try dsimp only); (have hx := HKS.out _ _ (h12.hold) (by simp); exact ⟨hx.1, hx.2.2.1, hx.2.2.2⟩); done)
          clear hK K
          (try simp only [Act.put, jA, jB, jC, jD, jE, jF])
          refine wpAnyH_done (by decide +kernel) ?_ _
          go_wp2_with fail
          go_meet
          exact ⟨_, _, _, _, _, _, rfl, hm2, h12⟩
         ·(try simp only [jA, jB, jC])
          go_simp
          refine hK.out _ _ ?_ (fun hHeld => ?_)
          focus ((try dsimp only); (have hx := HKS.out _ _ (h5.new #[.slice none 0 0, .slice none 0 0] 26) (by simp); exact ⟨hx.1, hx.2.2.1, hx.2.2.2⟩); done)
          clear hK K
          (try simp only [Act.put, jA, jB, jC, jD, jE, jF])
          have h7 := h5.new #[.slice none 0 0, .slice none 0 0] 26
          have hp7 := hp5.on ((Below.refl _ W5).alloc (Nat.le_refl _) (Obj.cells #[.slice none 0 0, .slice none 0 0] 26 (0, 0)))
          refine wpAnyH_ready (rs := [10]) (by decide +kernel) (by simp) ?_
          refine AllReadyH.cons rfl (fun K hK => ?_) AllReadyH.nil
          (try simp only [jA, jB, jC])
          go_simp
          go_at_call 19
          refine (HI2.out _ _ _ _ _ hm1 _ (hp7)).mono ?_
          rintro e' W6 ⟨hB6, D2, d2, l2, Dp2, dp2, rfl, hm2, hr2, hv2, hrs2⟩
          have h6 := Hold.on (h7) hB6
          have r2 := Row.base hr2 (h7).1
          have v2 := RowI.base hv2 (h7).1
          have s2 := OwnRs.base hrs2 (h7).1
          refine hK.out _ _ ?_ (fun hHeld => ?_)
          focus ((try dsimp only); (have hx := HKS.out _ _ (h6) (by simp); exact ⟨hx.1, hx.2.2.1, hx.2.2.2⟩); done)
          clear hK K
          (try simp only [Act.put, jA, jB, jC, jD, jE, jF])
          have h12 := Og.mkSet h6 r2 v2 s2
          obtain ⟨u0, u1⟩ := h6.pt (.head _)
          obtain ⟨f0, f1⟩ := h6.fz (.head _)
          refine wpAnyH_ready (rs := [12]) (by decide +kernel) (by simp) ?_
          refine AllReadyH.cons rfl (fun K hK => ?_) AllReadyH.nil
          (try simp only [jA, jB, jC])
          go_simp
          refine hK.out _ _ ?_ (fun hHeld => ?_)
          focus ((try dsimp only); (have hx := HKS.out _ _ (h12.hold) (by simp); exact ⟨hx.1, hx.2.2.1, hx.2.2.2⟩); done)
          clear hK K
          (try simp only [Act.put, jA, jB, jC, jD, jE, jF])
          refine wpAnyH_done (by decide +kernel) ?_ _
          go_wp2_with fail
          go_meet
          exact ⟨_, _, _, _, _, _, rfl, hm2, h12⟩
        ·(try simp only [jA, jB, jC])
         go_simp
         refine hK.out _ _ ?_ (fun hHeld => ?_)
         focus ((try dsimp only); (have hx := HKS.out _ _ ((HQ9.out.new #[.slice none 0 0, .slice none 0 0] 26).drew) (by simp); exact ⟨hx.1, hx.2.2.1, hx.2.2.2⟩); done)
         clear hK K
         (try simp only [Act.put, jA, jB, jC, jD, jE, jF])
         have h7 := (HQ9.out.new #[.slice none 0 0, .slice none 0 0] 26).drew
         refine wpAnyH_ready (rs := [4]) (by decide +kernel) (by simp) ?_
         refine AllReadyH.cons rfl (fun K hK => ?_) AllReadyH.nil
         (try simp only [jA, jB, jC])
         go_simp
         go_at_call 19
         refine (HI1.out _ _ (h7)).mono ?_
         rintro e' W5 ⟨hB5, D1, d1, l1, Dp1, dp1, rfl, hm1, hr1, hv1, hrs1⟩
         have h5 := Hold.on (h7) hB5
         have hp5 := planAt_of hr1 hv1 hrs1 (HL1.out l1 hm1).1 (HL1.out l1 hm1).2
         refine hK.out _ _ ?_ (fun hHeld => ?_)
         focus ((try dsimp only); (have hx := HKS.out _ _ (h5) (by simp); exact ⟨hx.1, hx.2.2.1, hx.2.2.2⟩); done)
         clear hK K
         (try simp only [Act.put, jA, jB, jC, jD, jE, jF])
         refine wpAnyH_ready (rs := [10]) (by decide +kernel) (by simp) ?_
         refine AllReadyH.cons rfl (fun K hK => ?_) AllReadyH.nil
         (try simp only [jA, jB, jC])
         go_simp
         go_at_call 19
         refine (HI2.out _ _ _ _ _ hm1 _ (hp5)).mono ?_
         rintro e' W6 ⟨hB6, D2, d2, l2, Dp2, dp2, rfl, hm2, hr2, hv2, hrs2⟩
         have h6 := Hold.on (h5) hB6
         have r2 := Row.base hr2 (h5).1
         have v2 := RowI.base hv2 (h5).1
         have s2 := OwnRs.base hrs2 (h5).1
         refine hK.out _ _ ?_ (fun hHeld => ?_)
         focus ((try dsimp only); (have hx := HKS.out _ _ (h6) (by simp); exact ⟨hx.1, hx.2.2.1, hx.2.2.2⟩); done)
         clear hK K
         (try simp only [Act.put, jA, jB, jC, jD, jE, jF])
         have h12 := Og.mkSet h6 r2 v2 s2
         obtain ⟨u0, u1⟩ := h6.pt (.head _)
         obtain ⟨f0, f1⟩ := h6.fz (.head _)
         refine wpAnyH_ready (rs := [12]) (by decide +kernel) (by simp) ?_
         refine AllReadyH.cons rfl (fun K hK => ?_) AllReadyH.nil
         (try simp only [jA, jB, jC])
         go_simp
         refine hK.out _ _ ?_ (fun hHeld => ?_)
         focus ((try dsimp only); (have hx := HKS.out _ _ (h12.hold) (by simp); exact ⟨hx.1, hx.2.2.1, hx.2.2.2⟩); done)
         clear hK K
         (try simp only [Act.put, jA, jB, jC, jD, jE, jF])
         refine wpAnyH_done (by decide +kernel) ?_ _
         go_wp2_with fail
         go_meet
         exact ⟨_, _, _, _, _, _, rfl, hm2, h12⟩
      case rest =>
       obtain ⟨g12, D2, d2, l2, Dp2, dp2, rfl, hm2, hO⟩ := hcut
       have hl2 : l2.length = l.length := by have := congrArg List.length hm2; rwa [List.length_map, List.length_map, List.length_map] at this
       have hlt := HLT.out
       have hxk := HXK.out
       have hx2 : (l2.map PV.par)[k]? = some (putP path ⟨id, xr, own⟩) := by rw [hm2, List.getElem?_map, hxk]; rfl
       have hk2 : k < l2.length := by omega
       obtain ⟨X2, xc2, hx3⟩ : ∃ X c, l2[k]? = some ⟨⟨id, putE xr path, own⟩, X, c⟩ := by
        rw [List.getElem?_map, List.getElem?_eq_getElem hk2] at hx2
        refine ⟨l2[k].A, l2[k].cap, ?_⟩
        rw [List.getElem?_eq_getElem hk2]
        have h1 : l2[k].par = putP path ⟨id, xr, own⟩ := Option.some.inj hx2
        exact congrArg some (by rw [show l2[k] = (⟨l2[k].par, l2[k].A, l2[k].cap⟩ : PV) from rfl, h1]; rfl)
       have hmem2 := List.mem_of_getElem? hx3
       have HX3 := Lib.hid hx3
       have hrm := putE_mem HXS.out.1 (HOB.out HF.out)
       rw [HFA.out, HLB.out] at hrm
       have hrl : (putE xr path).length ≤ 130 := by have := (putE_len xr path).2; have := HXS.out.2.2; omega
       have hclL : closedL path (putE xr path) = path ++ arc (putE xr path) b a := by unfold closedL; rw [HFA.out, HLB.out]
       have hclR : closedL path.reverse (putE xr path) = path.reverse ++ arc (putE xr path) a b := by rw [closedL_rev (by have := HI.out.2.1; omega), HFA.out, HLB.out]
       have HCL := Lib.hid hclL
       have HCR := Lib.hid hclR
       obtain ⟨r, hr⟩ : ∃ r, putE xr path = r := ⟨_, rfl⟩
       have HER := Lib.hid hr
       rw [hr] at hrm hrl hclL hclR HCL HCR hx3 HX3 hmem2
       have HRM := Lib.hid hrm
       have HRL : Hid (r.length ≤ 130) := hrl
       have hr0 : 0 < r.length := List.length_pos_of_mem hrm.1
       have HR0 : Hid (0 < r.length) := hr0
       obtain ⟨gp, hDp, hcell⟩ := hO.place hx3
       subst hDp
       obtain ⟨adr, hXa, -⟩ := (hO.pts hmem2).nx (k := 0) (i := 0) (Below.refl _ _) hr0 (Nat.mod_eq_of_lt hr0)
       simp only at hXa hcell
       subst hXa
       have HCX : Hid (∀ i W, Below wc.heap.size wc W → (W.cell? (adr.add ((i % r.length) * 2)) = some (.int .i64 (nx r i).1) ∧ W.cell? ⟨(adr.add ((i % r.length) * 2)).block, (adr.add ((i % r.length) * 2)).off + 1, none⟩ = some (.int .i64 (nx r i).2))) := fun i W hb => by
        obtain ⟨a1, e1, -, x0, x1⟩ := (hO.pts hmem2).nx (k := i % r.length) (i := i) hb (Nat.mod_lt _ hr0) rfl
        simp only at e1
        obtain rfl := Option.some.inj e1
        exact ⟨x0, x1⟩
       have HIN : Hid (∀ q W, Below wc.heap.size wc W → Calls Tryz.prog 20 #[.slice (some adr) r.length xc2, .agg #[.int .i64 q.1, .int .i64 q.2]] W fun e' w' => ∃ n, e' = .returned (.int .i64 n) ∧ Plc r q n ∧ Below W.heap.size W w') := fun q W hb => ref_in r (some adr) xc2 q (by omega) W ((hO.on hb).pts hmem2)
       have HOX := Lib.hid hO
       have HMM := Lib.hid hm2
       have HL2 := Lib.hid hl2
       have HPX : Hid (∀ W, Below wc.heap.size wc W → (W.cell? adp = some (.int .i64 a.1) ∧ W.cell? ⟨adp.block, adp.off + 1, none⟩ = some (.int .i64 a.2)) ∧ (W.cell? (adp.add (m * 2)) = some (.int .i64 b.1) ∧ W.cell? ⟨(adp.add (m * 2)).block, (adp.add (m * 2)).off + 1, none⟩ = some (.int .i64 b.2))) := fun W hb => HKP.out W (HOX.out.hold.1.trans (hb.mono HOX.out.hold.1.size))
       have HMD := Lib.hid (Row.made wc 35 rfl)
       obtain ⟨c0, c1⟩ := hO.hold.pt (.head _)
       have hn128 := HI.out.2.2
       clear hrm hrl hclL hclR hr hmem2 hx3 hxk hx2 hO hm2 hl2 hlt HI1 HI2 HL1 HKS HNX HXS HOB
       go_upto_region 18 with (at_builtin; go_must (refine append_pts _ Tryz.underlying23 HMD.out path (some adp) ca (HPA.out _ (Below.trans HOX.out.hold.1 (HMD.out.1.mono HOX.out.hold.1.size))) HNA.out (by have := HLN.out; simpa using this) rfl _ _ rfl rfl rfl ?_; rintro v3 W3 HR3; rw [List.nil_append] at HR3; obtain ⟨A3, c3, rfl, -, -, -⟩ := HR3.full; have HV3 := Lib.hid HR3; clear HR3))
       obtain ⟨⟨p0, p1⟩, p2, p3⟩ := HPX.out _ HV3.out.1
       clear c0 c1 hcell
       go_wp2_with fail
       go_at_call 20
       refine (HIN.out b _ HV3.out.1).mono ?_
       rintro e' W4 ⟨n4, rfl, hpl4, hB4⟩
       have hn4 := plc_pos hpl4 HRM.out.2
       subst hn4
       obtain ⟨m1, hm1, hm2, hm3, hm4, hm5⟩ := arc_walk HRM.out.2 HRM.out.1 (Ne.symm HNE.out)
       have hpl := posL_lt HRM.out.2
       obtain ⟨q0, hq0⟩ : ∃ q, posL r b + 1 = q := ⟨_, rfl⟩
       rw [hq0] at hm2 hm3 hm5
       generalize posL r b = pb at *
       have e1 : IntKind.i64.wrap ((pb : Int) + 1) = (q0 : Int) := by have := HRL.out; rw [IntKind.wrap_i64]; omega
       have HM1 : Hid (m1 + 1 < r.length) := hm1
       have HM2 := Lib.hid hm2
       have HM3 := Lib.hid hm3
       have HM5 := Lib.hid hm5
       have HQ0 : Hid (q0 ≤ r.length) := by unfold Hid; omega
       rw [hm4] at HCL
       have HV4 := Lib.hid (HV3.out.on hB4)
       have hstart : Hid (Row wc (.slice A3 path.length c3) (path ++ (behind r b).take 0) W4) := by unfold Hid; rw [List.take_zero, List.append_nil]; exact HV4.out
       clear hpl4 hm1 hm2 hm3 hm4 hm5 hpl hq0 hB4 p0 p1 p2 p3 HV3 HMD
       go_wp2_with fail
       go_loopg [14, 15] m1 (fun g v i wr => ∃ (j q : Nat), Hid (j ≤ m1) ∧ Hid (q0 + j = q) ∧ g = m1 - j ∧ i = .int .i64 q ∧ Hid (Row wc v (path ++ (behind r b).take j) wr))
       case atStart => exact ⟨0, q0, Nat.zero_le _, rfl, rfl, rfl, hstart.out⟩
       case round =>
        obtain ⟨j, q, HJ, HQJ, hgj, rfl, HV⟩ := hrel
        have HGJ := Lib.hid hgj
        clear hgj
        obtain ⟨jn, hjn, hmod, htm⟩ := place_mod (q := q) (n := r.length) HR0.out
        have HXI := Lib.hid (HCX.out q)
        rw [hmod] at HXI
        have b10 : (0 : Int) ≤ (jn : Int) := by omega
        have b11 : (jn : Int) < (r.length : Int) := by omega
        have b12 : ¬ r.length = 0 := by have := HR0.out; omega
        have b13 : ¬ r = [] := fun e => by rw [e] at b12; exact b12 rfl
        have b14 : (q : Int) ≤ 300 := by have := HJ.out; have := HQJ.out; have := HM1.out; have := HQ0.out; have := HRL.out; omega
        have b15 : IntKind.i64.wrap ((q : Int) + 1) = (q : Int) + 1 := by rw [IntKind.wrap_i64]; omega
        clear hmod hjn
        by_cases hj : j < m1
        ·have hu : nx r q ≠ a := by have := HM3.out j hj; rwa [HQJ.out] at this
         have HST : Hid ((behind r b).take (j + 1) = (behind r b).take j ++ [nx r q]) := by have := HM5.out j hj; rwa [HQJ.out] at this
         have HNQ : Hid ((path ++ (behind r b).take j).length ≤ 1000000000) := by unfold Hid; rw [List.length_append, List.length_take]; have := HM1.out; have := HRL.out; omega
         have HJN : Hid (j + 1 ≤ m1) := hj
         generalize nx r q = u at *
         have HX : Hid (∀ W, Below wc.heap.size wc W → (W.cell? (adr.add (jn * 2)) = some (.int .i64 u.1) ∧ W.cell? ⟨(adr.add (jn * 2)).block, (adr.add (jn * 2)).off + 1, none⟩ = some (.int .i64 u.2)) ∧ (W.cell? adp = some (.int .i64 a.1) ∧ W.cell? ⟨adp.block, adp.off + 1, none⟩ = some (.int .i64 a.2))) := fun W hb => ⟨HXI.out W hb, (HPX.out W hb).1⟩
         clear hj
         rcases ne_part2 hu with h1 | ⟨h1, h2⟩
         ·have e7 : (u.1 == a.1) = false := by simpa using h1
          clear hu h1
          as_aux_lemma =>
           have hv := HV.out.drew
           go_upto_region 19 with (fail)
           refine wp_region_held_drew (S := fun W => (W.cell? (adr.add (jn * 2)) = some (.int .i64 u.1) ∧ W.cell? ⟨(adr.add (jn * 2)).block, (adr.add (jn * 2)).off + 1, none⟩ = some (.int .i64 u.2)) ∧ (W.cell? adp = some (.int .i64 a.1) ∧ W.cell? ⟨adp.block, adp.off + 1, none⟩ = some (.int .i64 a.2))) (by kernel_rfl) ?_ (fun hHeld => ?_)
           ·(try dsimp only)
            exact HX.out _ hv.1
           refine tZ 0 ?_; refine tZ 1 ?_; refine tZ 2 ?_; refine tZ 3 ?_; refine tZ 4 ?_; refine tZ 5 ?_; refine tZ 6 ?_; refine tZ 7 ?_; refine tZ 8 ?_; refine tZ 9 ?_; refine tZ 10 ?_
           refine wpAnyH_done (by decide +kernel) ?_ _
           obtain ⟨⟨d0, d1⟩, -⟩ := HX.out _ hv.1
           go_wp2_with (at_builtin; refine append_pt _ Tryz.underlying23 hv HNQ.out u _ rfl _ _ rfl rfl _ rfl ?_; rintro v9 w9 HR9)
           go_roundg (m1 - (j + 1))
           case measure => have := HGJ.out; have := HJN.out; omega
           case rel => exact ⟨j + 1, q + 1, HJN.out, by have := HQJ.out; show q0 + (j + 1) = q + 1; omega, rfl, by go_num, by show Row _ _ (path ++ (behind r b).take (j + 1)) _; rw [HST.out, ← List.append_assoc]; exact HR9⟩
         ·have e7 : (u.1 == a.1) = true := by simpa using h1
          have e8 : (u.2 == a.2) = false := by simpa using h2
          clear hu h1 h2
          as_aux_lemma =>
           have hv := HV.out.drew
           go_upto_region 19 with (fail)
           refine wp_region_held_drew (S := fun W => (W.cell? (adr.add (jn * 2)) = some (.int .i64 u.1) ∧ W.cell? ⟨(adr.add (jn * 2)).block, (adr.add (jn * 2)).off + 1, none⟩ = some (.int .i64 u.2)) ∧ (W.cell? adp = some (.int .i64 a.1) ∧ W.cell? ⟨adp.block, adp.off + 1, none⟩ = some (.int .i64 a.2))) (by kernel_rfl) ?_ (fun hHeld => ?_)
           ·(try dsimp only)
            exact HX.out _ hv.1
           refine tZ 0 ?_; refine tZ 1 ?_; refine tZ 2 ?_; refine tZ 3 ?_; refine tZ 4 ?_; refine tZ 5 ?_; refine tZ 6 ?_; refine tZ 7 ?_; refine tZ 8 ?_; refine tZ 9 ?_; refine tZ 10 ?_
           refine wpAnyH_done (by decide +kernel) ?_ _
           obtain ⟨⟨d0, d1⟩, -⟩ := HX.out _ hv.1
           go_wp2_with (at_builtin; refine append_pt _ Tryz.underlying23 hv HNQ.out u _ rfl _ _ rfl rfl _ rfl ?_; rintro v9 w9 HR9)
           go_roundg (m1 - (j + 1))
           case measure => have := HGJ.out; have := HJN.out; omega
           case rel => exact ⟨j + 1, q + 1, HJN.out, by have := HQJ.out; show q0 + (j + 1) = q + 1; omega, rfl, by go_num, by show Row _ _ (path ++ (behind r b).take (j + 1)) _; rw [HST.out, ← List.append_assoc]; exact HR9⟩
        ·have hje : j = m1 := by have := HJ.out; omega
         subst hje
         have hu : nx r q = a := by have := HM2.out; rwa [HQJ.out] at this
         rw [hu] at HXI
         clear hu hj
         have hv := HV.out.drew
         go_upto_region 19 with (fail)
         refine wp_region_held_drew (S := fun W => (W.cell? (adr.add (jn * 2)) = some (.int .i64 a.1) ∧ W.cell? ⟨(adr.add (jn * 2)).block, (adr.add (jn * 2)).off + 1, none⟩ = some (.int .i64 a.2)) ∧ (W.cell? adp = some (.int .i64 a.1) ∧ W.cell? ⟨adp.block, adp.off + 1, none⟩ = some (.int .i64 a.2))) (by kernel_rfl) ?_ (fun hHeld => ?_)
         ·(try dsimp only)
          exact ⟨HXI.out _ hv.1, (HPX.out _ hv.1).1⟩
         refine tZ 0 ?_; refine tZ 1 ?_; refine tZ 2 ?_; refine tZ 3 ?_; refine tZ 4 ?_; refine tZ 5 ?_; refine tZ 6 ?_; refine tZ 7 ?_; refine tZ 8 ?_; refine tZ 9 ?_; refine tZ 10 ?_
         refine wpAnyH_done (by decide +kernel) ?_ _
         rw [← HCL.out] at hv
         have HVL := Lib.hid hv
         clear hv hstart HV HXI htm b10 b11 b14 b15
         generalize (World.drew wr) = We at HVL ⊢
         have HN0 : Row We (.slice none 0 0) [] We := Row.nil (Below.refl _ _)
         go_wp2_with fail
         go_loopg [16, 17] path.length (fun g v i wr => ∃ (j : Nat) (z : Int), Hid (j ≤ path.length) ∧ Hid (z = (j : Int) - 1) ∧ g = j ∧ i = .int .i64 z ∧ Hid (Row We v (path.drop j).reverse wr))
         case atStart => exact ⟨path.length, m, Nat.le_refl _, by have := HM.out; show (m : Int) = (path.length : Int) - 1; omega, rfl, rfl, by show Row We _ (path.drop path.length).reverse We; rw [List.drop_length]; exact HN0⟩
         case round =>
          clear HN0
          obtain ⟨j, z, HJ2, HZ, hgj, rfl, HV2⟩ := hrel
          have HGJ2 := Lib.hid hgj
          clear hgj
          by_cases hj : j = 0
          ·subst hj
           have hz : z = -1 := by have := HZ.out; omega
           subst hz
           have hwe := HVL.out.1.trans (HV2.out.1.mono HVL.out.1.size)
           obtain ⟨⟨p0, p1⟩, p2, p3⟩ := HPX.out _ hwe
           have HWE := Lib.hid hwe
           clear hwe
           go_wp2_with fail
           go_at_call 20
           refine (HIN.out a _ HWE.out).mono ?_
           rintro e' W6 ⟨n6, rfl, hpl6, hB6⟩
           have hn6 := plc_pos hpl6 HRM.out.1
           subst hn6
           obtain ⟨m2, hm1, hm2, hm3, hm4, hm5⟩ := arc_walk HRM.out.1 HRM.out.2 HNE.out
           have hpl := posL_lt HRM.out.1
           obtain ⟨q5, hq0⟩ : ∃ q, posL r a + 1 = q := ⟨_, rfl⟩
           rw [hq0] at hm2 hm3 hm5
           generalize posL r a = pa at *
           have e6 : IntKind.i64.wrap ((pa : Int) + 1) = (q5 : Int) := by have := HRL.out; rw [IntKind.wrap_i64]; omega
           have HM2 : Hid (m2 + 1 < r.length) := hm1
           have HM2b := Lib.hid hm2
           have HM3 := Lib.hid hm3
           have HM5 := Lib.hid hm5
           have HQ5 : Hid (q5 ≤ r.length) := by unfold Hid; omega
           rw [hm4] at HCR
           have HV6 := Lib.hid (HV2.out.on hB6)
           have HVL6 := Lib.hid (HVL.out.on HV6.out.1)
           have hstart2 : Hid (∀ v, Row We v (path.drop 0).reverse W6 → Row We v (path.reverse ++ (behind r a).take 0) W6) := fun v hv => by rw [List.take_zero, List.append_nil]; rw [List.drop_zero] at hv; exact hv
           clear hpl6 hm1 hm2 hm3 hm4 hm5 hpl hq0 hB6 p0 p1 p2 p3 HJ2 HZ HGJ2 HV2 HJ HQJ HGJ HWE
           go_wp2_with fail
           go_loopg [16, 18] m2 (fun g v i wr => ∃ (j q : Nat), Hid (j ≤ m2) ∧ Hid (q5 + j = q) ∧ g = m2 - j ∧ i = .int .i64 q ∧ Hid (Row We v (path.reverse ++ (behind r a).take j) wr))
           case atStart => exact ⟨0, q5, Nat.zero_le _, rfl, rfl, rfl, hstart2.out _ HV6.out⟩
           case round =>
            clear hstart2
            obtain ⟨j, q, HJ, HQJ, hgj, rfl, HV⟩ := hrel
            have HGJ := Lib.hid hgj
            clear hgj
            obtain ⟨jn, hjn, hmod, htm⟩ := place_mod (q := q) (n := r.length) HR0.out
            have HXI := Lib.hid (HCX.out q)
            rw [hmod] at HXI
            have b10 : (0 : Int) ≤ (jn : Int) := by omega
            have b11 : (jn : Int) < (r.length : Int) := by omega
            have b12 : ¬ r.length = 0 := by have := HR0.out; omega
            have b13 : ¬ r = [] := fun e => by rw [e] at b12; exact b12 rfl
            have b14 : (q : Int) ≤ 300 := by have := HJ.out; have := HQJ.out; have := HM2.out; have := HQ5.out; have := HRL.out; omega
            have b15 : IntKind.i64.wrap ((q : Int) + 1) = (q : Int) + 1 := by rw [IntKind.wrap_i64]; omega
            clear hmod hjn
            by_cases hj : j < m2
            ·have hu : nx r q ≠ b := by have := HM3.out j hj; rwa [HQJ.out] at this
             have HST : Hid ((behind r a).take (j + 1) = (behind r a).take j ++ [nx r q]) := by have := HM5.out j hj; rwa [HQJ.out] at this
             have HNQ : Hid ((path.reverse ++ (behind r a).take j).length ≤ 1000000000) := by unfold Hid; rw [List.length_append, List.length_take, List.length_reverse]; have := HM2.out; have := HRL.out; omega
             have HJN : Hid (j + 1 ≤ m2) := hj
             generalize nx r q = u at *
             have HX : Hid (∀ W, Below We.heap.size We W → (W.cell? (adr.add (jn * 2)) = some (.int .i64 u.1) ∧ W.cell? ⟨(adr.add (jn * 2)).block, (adr.add (jn * 2)).off + 1, none⟩ = some (.int .i64 u.2)) ∧ (W.cell? (adp.add (m * 2)) = some (.int .i64 b.1) ∧ W.cell? ⟨(adp.add (m * 2)).block, (adp.add (m * 2)).off + 1, none⟩ = some (.int .i64 b.2))) := fun W hb => ⟨HXI.out W (HVL.out.1.trans (hb.mono HVL.out.1.size)), (HPX.out W (HVL.out.1.trans (hb.mono HVL.out.1.size))).2⟩
             clear hj
             rcases ne_part2 hu with h1 | ⟨h1, h2⟩
             ·have e7 : (u.1 == b.1) = false := by simpa using h1
              clear hu h1
              as_aux_lemma =>
               have hv := HV.out.drew
               go_upto_region 28 with (fail)
               refine wp_region_held_drew (S := fun W => (W.cell? (adr.add (jn * 2)) = some (.int .i64 u.1) ∧ W.cell? ⟨(adr.add (jn * 2)).block, (adr.add (jn * 2)).off + 1, none⟩ = some (.int .i64 u.2)) ∧ (W.cell? (adp.add (m * 2)) = some (.int .i64 b.1) ∧ W.cell? ⟨(adp.add (m * 2)).block, (adp.add (m * 2)).off + 1, none⟩ = some (.int .i64 b.2))) (by kernel_rfl) ?_ (fun hHeld => ?_)
               ·(try dsimp only)
                exact HX.out _ hv.1
               refine tZ 0 ?_; refine tZ 1 ?_; refine tZ 2 ?_; refine tZ 3 ?_; refine tZ 4 ?_; refine tZ 5 ?_; refine tZ 6 ?_; refine tZ 7 ?_; refine tZ 8 ?_; refine tZ 9 ?_; refine tZ 10 ?_; refine tZ 11 ?_; refine tZ 12 ?_
               refine wpAnyH_done (by decide +kernel) ?_ _
               obtain ⟨⟨d0, d1⟩, -⟩ := HX.out _ hv.1
               go_wp2_with (at_builtin; refine append_pt _ Tryz.underlying23 hv HNQ.out u _ rfl _ _ rfl rfl _ rfl ?_; rintro v9 w9 HR9)
               go_roundg (m2 - (j + 1))
               case measure => have := HGJ.out; have := HJN.out; omega
               case rel => exact ⟨j + 1, q + 1, HJN.out, by have := HQJ.out; show q5 + (j + 1) = q + 1; omega, rfl, by go_num, by show Row _ _ (path.reverse ++ (behind r a).take (j + 1)) _; rw [HST.out, ← List.append_assoc]; exact HR9⟩
             ·have e7 : (u.1 == b.1) = true := by simpa using h1
              have e8 : (u.2 == b.2) = false := by simpa using h2
              clear hu h1 h2
              as_aux_lemma =>
               have hv := HV.out.drew
               go_upto_region 28 with (fail)
               refine wp_region_held_drew (S := fun W => (W.cell? (adr.add (jn * 2)) = some (.int .i64 u.1) ∧ W.cell? ⟨(adr.add (jn * 2)).block, (adr.add (jn * 2)).off + 1, none⟩ = some (.int .i64 u.2)) ∧ (W.cell? (adp.add (m * 2)) = some (.int .i64 b.1) ∧ W.cell? ⟨(adp.add (m * 2)).block, (adp.add (m * 2)).off + 1, none⟩ = some (.int .i64 b.2))) (by kernel_rfl) ?_ (fun hHeld => ?_)
               ·(try dsimp only)
                exact HX.out _ hv.1
               refine tZ 0 ?_; refine tZ 1 ?_; refine tZ 2 ?_; refine tZ 3 ?_; refine tZ 4 ?_; refine tZ 5 ?_; refine tZ 6 ?_; refine tZ 7 ?_; refine tZ 8 ?_; refine tZ 9 ?_; refine tZ 10 ?_; refine tZ 11 ?_; refine tZ 12 ?_
               refine wpAnyH_done (by decide +kernel) ?_ _
               obtain ⟨⟨d0, d1⟩, -⟩ := HX.out _ hv.1
               go_wp2_with (at_builtin; refine append_pt _ Tryz.underlying23 hv HNQ.out u _ rfl _ _ rfl rfl _ rfl ?_; rintro v9 w9 HR9)
               go_roundg (m2 - (j + 1))
               case measure => have := HGJ.out; have := HJN.out; omega
               case rel => exact ⟨j + 1, q + 1, HJN.out, by have := HQJ.out; show q5 + (j + 1) = q + 1; omega, rfl, by go_num, by show Row _ _ (path.reverse ++ (behind r a).take (j + 1)) _; rw [HST.out, ← List.append_assoc]; exact HR9⟩
            ·have hje : j = m2 := by have := HJ.out; omega
             subst hje
             have hu : nx r q = b := by have := HM2b.out; rwa [HQJ.out] at this
             rw [hu] at HXI
             clear hu hj
             have hv := HV.out.drew
             have hwx := HVL.out.1.trans (hv.1.mono HVL.out.1.size)
             have HWX := Lib.hid hwx
             clear hwx
             go_upto_region 28 with (fail)
             refine wp_region_held_drew (S := fun W => (W.cell? (adr.add (jn * 2)) = some (.int .i64 b.1) ∧ W.cell? ⟨(adr.add (jn * 2)).block, (adr.add (jn * 2)).off + 1, none⟩ = some (.int .i64 b.2)) ∧ (W.cell? (adp.add (m * 2)) = some (.int .i64 b.1) ∧ W.cell? ⟨(adp.add (m * 2)).block, (adp.add (m * 2)).off + 1, none⟩ = some (.int .i64 b.2))) (by kernel_rfl) ?_ (fun hHeld => ?_)
             ·(try dsimp only)
              exact ⟨HXI.out _ HWX.out, (HPX.out _ HWX.out).2⟩
             refine tZ 0 ?_; refine tZ 1 ?_; refine tZ 2 ?_; refine tZ 3 ?_; refine tZ 4 ?_; refine tZ 5 ?_; refine tZ 6 ?_; refine tZ 7 ?_; refine tZ 8 ?_; refine tZ 9 ?_; refine tZ 10 ?_; refine tZ 11 ?_; refine tZ 12 ?_
             refine wpAnyH_done (by decide +kernel) ?_ _
             rw [← HCR.out] at hv
             have HVR := Lib.hid hv
             have HVL7 := Lib.hid (HVL.out.on hv.1)
             clear hv HV HXI htm b10 b11 b14 b15 HV6 HVL6
             generalize (World.drew wr) = W7 at HVR HVL7 HWX ⊢
             have hO7 := HOX.out.on HWX.out
             have hKn : ∀ e ∈ ([(g8, #[Value.slice none 0 0, Value.slice none 0 0], 26), (g4, #[.slice Ao o.length co, .slice (some ad) l.length cp], 26)] : List (Nat × Array Value × TypeId)), e.2.2 ≠ 37 := by
              intro e he
              simp only [List.mem_cons, List.not_mem_nil, or_false] at he
              rcases he with rfl | rfl
              ·exact (show (26 : Nat) ≠ 37 by decide)
              ·exact (show (26 : Nat) ≠ 37 by decide)
             have HKN := Lib.hid hKn
             obtain ⟨AR, cR, hvR, -, -, -⟩ := HVR.out.full
             obtain ⟨AL, cL, hvL, -, -, -⟩ := HVL7.out.full
             subst hvR
             subst hvL
             have hbw : Below w.heap.size w We := HOX.out.hold.1.trans (HVL.out.1.mono HOX.out.hold.1.size)
             obtain ⟨gp', hDp', hfz, ⟨uz, huz⟩, hog⟩ := hO7.ring hKn HX3.out (HVR.out.base hbw)
             obtain ⟨rfl⟩ : gp = gp' := by simpa using hDp'
             obtain ⟨gq, cs, hDq, hblk⟩ := hO7.blk (by have := HL2.out; have := HLT.out; omega)
             obtain ⟨rfl⟩ : gp = gq := by simpa using hDq
             have hleft : w.heap.size ≤ wc.heap.size := HOX.out.hold.1.size
             have HLF := Lib.hid (row_far_set (HVL7.out.base HOX.out.hold.1).2 (row_block (HVL7.out.base HOX.out.hold.1).2 hblk (show (37 : Nat) ≠ 35 by decide)) (k * 3 + 1) (.slice AR (closedL path.reverse r).length cR))
             obtain ⟨c0, c1⟩ := hO7.hold.pt (.head _)
             clear hDp' hDq hblk hleft hKn hO7 hbw
             go_upto_region 32 with (fail)
             rename_i KX hKX
             have HKX := Lib.hid hKX
             go_tidy
             generalize (World.setCell _ _ _) = W8 at hog HLF ⊢
             clear c0 c1 hfz huz
             have HL3 : Hid ((l2.set k ⟨⟨id, closedL path.reverse r, own⟩, AR, cR⟩).map PV.par = ((l.map PV.par).map (putP path)).set k ⟨id, closedL path.reverse r, own⟩) := by unfold Hid; rw [List.map_set, HMM.out]
             have hl3 : l2.length = (l2.set k ⟨⟨id, closedL path.reverse r, own⟩, AR, cR⟩).length := by rw [List.length_set]
             have hk3 : k < (l2.set k (⟨⟨id, closedL path.reverse r, own⟩, AR, cR⟩ : PV)).length := by rw [← hl3]; have := HL2.out; have := HLT.out; omega
             have hel : (l2.set k (⟨⟨id, closedL path.reverse r, own⟩, AR, cR⟩ : PV))[k] = ⟨⟨id, closedL path.reverse r, own⟩, AR, cR⟩ := by rw [List.getElem_set_self]
             have h64 : l2.length ≤ 64 := by have h1 := HP.out.snd.2.2; rw [List.length_map] at h1; have := HL2.out; omega
             have b20 : (k : Int) < (l2.length : Int) := by rw [hl3]; omega
             rw [hl3] at hog h64 b20 ⊢
             obtain ⟨gq, hDq, -, -, ⟨-, -, hcw⟩, -⟩ := hog.row.elem hk3
             obtain ⟨rfl⟩ : gp = gq := by simpa using hDq
             rw [hel] at hcw
             have HLW : Hid (∀ x ∈ (l2.set k (⟨⟨id, closedL path.reverse r, own⟩, AR, cR⟩ : PV)) ++ [⟨⟨fresh, closedL path r, own⟩, AL, cL⟩], x.par.ring.length ≤ 1000 ∧ x.par.own.size ≤ maxLen) := fun x hx => by
              have h1 : x.par ∈ preD (l.map PV.par) k id fresh path ⟨id, xr, own⟩ := by
               unfold preD
               show x.par ∈ ((l.map PV.par).map (putP path)).set k ⟨id, closedL path.reverse (putE xr path), own⟩ ++ [⟨fresh, closedL path (putE xr path), own⟩]
               rw [HER.out, ← HL3.out]
               rcases List.mem_append.1 hx with hx | hx
               ·exact List.mem_append_left _ (List.mem_map_of_mem hx)
               ·obtain rfl := List.mem_singleton.1 hx
                exact List.mem_append_right _ (List.mem_singleton.2 rfl)
              obtain ⟨h2, z, hz, h3⟩ := pre_small HP.out HXK.out HI.out.2.2 _ h1
              obtain ⟨y, hy, rfl⟩ := List.mem_map.1 hz
              exact ⟨h2, by rw [h3]; exact HOW.out y hy⟩
             have HPE : Hid (∀ l5 : List PV, l5.Perm ((l2.set k (⟨⟨id, closedL path.reverse r, own⟩, AR, cR⟩ : PV)) ++ [⟨⟨fresh, closedL path r, own⟩, AL, cL⟩]) → l5.Pairwise (fun a b => a.par.id ≤ b.par.id) → (l5.map fun x => lsP x.par) = docL (l.map PV.par) id path fresh) := fun l5 h1 h2 => pre_end HP.out HXK.out rfl HMF.out (by
              refine (h1.map PV.par).trans ?_
              rw [List.map_append, HL3.out]
              unfold preD
              show (((l.map PV.par).map (putP path)).set k ⟨id, closedL path.reverse r, own⟩ ++ [(⟨fresh, closedL path r, own⟩ : Par)]).Perm (((l.map PV.par).map (putP path)).set k ⟨id, closedL path.reverse (putE xr path), own⟩ ++ [⟨fresh, closedL path (putE xr path), own⟩])
              rw [HER.out]) h2
             have HHO := Lib.hid (hog.hold.drew)
             have hog8 := hog.drew
             have HLF8 := Lib.hid (row_on HLF.out (show Below W8.heap.size W8 W8.drew from ⟨rfl, rfl, rfl, Nat.le_refl _, fun _ _ => rfl⟩))
             have hcw8 : W8.drew.cell? ⟨gp, k * 3 + 2, none⟩ = some (.string own) := hcw
             obtain ⟨c0, c1⟩ := hog8.hold.pt (.head _)
             clear hel hk3 hl3 hDq hcw hog HLF
             generalize (l2.set k (⟨⟨id, closedL path.reverse r, own⟩, AR, cR⟩ : PV)) = l3 at *
             have HOG8 := Lib.hid hog8
             have H64 : Hid (l3.length ≤ 64) := h64
             obtain ⟨l4, hl4⟩ : ∃ l4 : List PV, l3 ++ [(⟨⟨fresh, closedL path r, own⟩, AL, cL⟩ : PV)] = l4 := ⟨_, rfl⟩
             have HLX : Hid (l4.length = l3.length + 1) := by unfold Hid; rw [← hl4]; simp
             have HL4 := Lib.hid hl4
             rw [hl4] at HLW HPE
             clear hl4
             clear hog8 h64
             go_cut [205] (fun s wx => ∃ A10 c10 l5, s = .pointer (some ⟨g12, 1, none⟩) ∧ Hid (l5.Perm l4) ∧ Hid (l5.Pairwise (fun a b => a.par.id ≤ b.par.id)) ∧ Og w D2 (putE o path) d2 A10 l5.length l5 c10 g12 [(g8, #[Value.slice none 0 0, Value.slice none 0 0], 26), (g4, #[.slice Ao o.length co, .slice (some ad) l.length cp], 26)] wx)
             case first =>
              clear HPE HLW HL3
              as_aux_lemma =>
               refine wp_region_held_drew (S := fun W => W.cell? ⟨g12, 0, none⟩ = some (.slice D2 (putE o path).length d2)) (by kernel_rfl) ?_ (fun hHeld => ?_)
               ·(try dsimp only)
                exact c0
               generalize (World.drew W8) = Wd at HOG8 HLF8 hcw8 c0 c1 hHeld ⊢
               refine tZ 0 ?_; refine tZ 2 ?_; refine tZ 3 ?_; refine tZ 4 ?_; refine tZ 6 ?_
               refine wpAnyH_ready (rs := [1, 5]) (by decide +kernel) (by simp) ?_
               refine AllReadyH.cons rfl (fun K hK => ?_) (AllReadyH.cons rfl (fun K hK => ?_) AllReadyH.nil)
               ·(try simp only [jA, jB, jC])
                go_simp
                refine hK.out _ _ ?_ (fun hHeld => ?_)
                focus ((try dsimp only); exact c0; done)
                clear hK K
                (try simp only [Act.put, jA, jB, jC, jD, jE, jF])
                refine wpAnyH_ready (rs := [5]) (by decide +kernel) (by simp) ?_
                refine AllReadyH.cons rfl (fun K hK => ?_) AllReadyH.nil
                (try simp only [jA, jB, jC])
                go_simp
                refine hK.out _ _ ?_ (fun hHeld => ?_)
                focus ((try dsimp only); exact c0; done)
                clear hK K
                (try simp only [Act.put, jA, jB, jC, jD, jE, jF])
                refine tZ 7 ?_; refine tZ 8 ?_
                refine wpAnyH_ready (rs := [9]) (by decide +kernel) (by simp) ?_
                refine AllReadyH.cons rfl (fun K hK => ?_) AllReadyH.nil
                (try simp only [jA, jB, jC])
                go_simp
                refine hK.out _ _ ?_ (fun hHeld => ?_)
                focus ((try dsimp only); exact hHeld; done)
                clear hK K
                (try simp only [Act.put, jA, jB, jC, jD, jE, jF])
                refine tZ 10 ?_
                refine wpAnyH_ready (rs := [11]) (by decide +kernel) (by simp) ?_
                refine AllReadyH.cons rfl (fun K hK => ?_) AllReadyH.nil
                (try simp only [jA, jB, jC])
                go_simp
                refine hK.out _ _ ?_ (fun hHeld => ?_)
                focus ((try dsimp only); exact ((HOG8.out.hold.new #[Value.int .i64 fresh, .slice AL (closedL path r).length cL, .string own] 37).pt (.tail _ (.head _))).1; done)
                clear hK K
                (try simp only [Act.put, jA, jB, jC, jD, jE, jF])
                have hb9 := (Below.refl _ Wd).alloc (Nat.le_refl _) (Obj.cells #[Value.int .i64 fresh, .slice AL (closedL path r).length cL, .string own] 37 (0, 0))
                have hog9 := HOG8.out.on hb9
                have hlf9 := row_on HLF8.out hb9
                have hit9 := items_one (B := (Wd.alloc (Obj.cells #[Value.int .i64 fresh, .slice AL (closedL path r).length cL, .string own] 37 (0, 0))).heap.size) (enc := encV) (x := (⟨⟨fresh, closedL path r, own⟩, AL, cL⟩ : PV)) (heap_alloc_new Wd (Obj.cells #[Value.int .i64 fresh, .slice AL (closedL path r).length cL, .string own] 37 (0, 0))) rfl (by simp)
                clear hb9
                generalize (World.alloc Wd _) = W9 at hog9 hlf9 hit9 ⊢
                generalize Wd.heap.size = g9 at hit9 ⊢
                refine wpAnyH_ready (rs := [12]) (by decide +kernel) (by simp) ?_
                refine AllReadyH.cons rfl (fun K hK => ?_) AllReadyH.nil
                refine step_append_itemsG kindV Tryz.underlying24 hog9.row [⟨⟨fresh, closedL path r, own⟩, AL, cL⟩] (some ⟨g9, 0, none⟩) 1 hit9 (fun e => by cases e) (by have := H64.out; unfold maxLen; simp; omega) (by have := H64.out; simp; omega) rfl _ _ (by rfl) (by rfl) (by rfl) ?_; rintro v9 WX HR9 hg9; obtain ⟨hq9, ho9, hs9⟩ := Og.more hog9 hlf9 HKN.out HR9 hg9; rw [HL4.out] at HR9 hs9; obtain ⟨A9, c9, hv9, hi9, hn9⟩ := HR9.items; rw [HLX.out] at hv9; subst hv9; have hso := Sorted_any l4 A9 c9 (by have := H64.out; rw [HLX.out]; omega) hn9 _ hi9; rw [HLX.out] at hso; have HSO := Lib.hid hso; clear hso; have HH9 := Lib.hid hq9; have HO9 := Lib.hid ho9; have HS9 := Lib.hid hs9; clear hg9 hog9 hlf9 hit9 hi9 hn9 hq9 ho9 hs9 HR9
                refine hK.out _ _ ?_ (fun hHeld => ?_)
                focus ((try dsimp only); exact (HH9.out.pt (.head _)).1; done)
                clear hK K
                (try simp only [Act.put, jA, jB, jC, jD, jE, jF])
                refine wpAnyH_ready (rs := [13]) (by decide +kernel) (by simp) ?_
                refine AllReadyH.cons rfl (fun K hK => ?_) AllReadyH.nil
                (try simp only [jA, jB, jC])
                go_simp
                (go_at_call 21; refine HSO.out.mono ?_; rintro e' W10 ⟨v10, l5, rfl, hr10, hp10, hs10⟩; obtain ⟨A10, c10, hv10, -, -⟩ := hr10.items; subst hv10; have hq10 := HH9.out.on hr10.1; have h12 := Og.row2 hq10 (HO9.out.on hr10.1) (RowI.base hr10 HH9.out.1) (fun x hx => (HS9.out.on hr10.1) x (hp10.subset hx)); obtain ⟨u0, u1⟩ := hq10.pt (.head _); obtain ⟨f0, f1⟩ := hq10.fz (.head _); have H12 := Lib.hid h12; clear hq10 h12)
                refine hK.out _ _ ?_ (fun hHeld => ?_)
                focus ((try dsimp only); exact u0; done)
                clear hK K
                (try simp only [Act.put, jA, jB, jC, jD, jE, jF])
                refine tZ 14 ?_
                refine wpAnyH_ready (rs := [15]) (by decide +kernel) (by simp) ?_
                refine AllReadyH.cons rfl (fun K hK => ?_) AllReadyH.nil
                (try simp only [jA, jB, jC])
                go_simp
                refine hK.out _ _ ?_ (fun hHeld => ?_)
                focus ((try dsimp only); exact (H12.out.hold.pt (.head _)).1; done)
                clear hK K
                (try simp only [Act.put, jA, jB, jC, jD, jE, jF])
                refine wpAnyH_done (by decide +kernel) ?_ _
                go_wp2_with fail
                go_meet
                exact ⟨_, _, l5, rfl, hp10, hs10, H12.out⟩
               ·(try simp only [jA, jB, jC])
                go_simp
                refine hK.out _ _ ?_ (fun hHeld => ?_)
                focus ((try dsimp only); exact c0; done)
                clear hK K
                (try simp only [Act.put, jA, jB, jC, jD, jE, jF])
                refine tZ 7 ?_; refine tZ 8 ?_
                refine wpAnyH_ready (rs := [1, 9]) (by decide +kernel) (by simp) ?_
                refine AllReadyH.cons rfl (fun K hK => ?_) (AllReadyH.cons rfl (fun K hK => ?_) AllReadyH.nil)
                ·(try simp only [jA, jB, jC])
                 go_simp
                 refine hK.out _ _ ?_ (fun hHeld => ?_)
                 focus ((try dsimp only); exact c0; done)
                 clear hK K
                 (try simp only [Act.put, jA, jB, jC, jD, jE, jF])
                 refine wpAnyH_ready (rs := [9]) (by decide +kernel) (by simp) ?_
                 refine AllReadyH.cons rfl (fun K hK => ?_) AllReadyH.nil
                 (try simp only [jA, jB, jC])
                 go_simp
                 refine hK.out _ _ ?_ (fun hHeld => ?_)
                 focus ((try dsimp only); exact hHeld; done)
                 clear hK K
                 (try simp only [Act.put, jA, jB, jC, jD, jE, jF])
                 refine tZ 10 ?_
                 refine wpAnyH_ready (rs := [11]) (by decide +kernel) (by simp) ?_
                 refine AllReadyH.cons rfl (fun K hK => ?_) AllReadyH.nil
                 (try simp only [jA, jB, jC])
                 go_simp
                 refine hK.out _ _ ?_ (fun hHeld => ?_)
                 focus ((try dsimp only); exact ((HOG8.out.hold.new #[Value.int .i64 fresh, .slice AL (closedL path r).length cL, .string own] 37).pt (.tail _ (.head _))).1; done)
                 clear hK K
                 (try simp only [Act.put, jA, jB, jC, jD, jE, jF])
                 have hb9 := (Below.refl _ Wd).alloc (Nat.le_refl _) (Obj.cells #[Value.int .i64 fresh, .slice AL (closedL path r).length cL, .string own] 37 (0, 0))
                 have hog9 := HOG8.out.on hb9
                 have hlf9 := row_on HLF8.out hb9
                 have hit9 := items_one (B := (Wd.alloc (Obj.cells #[Value.int .i64 fresh, .slice AL (closedL path r).length cL, .string own] 37 (0, 0))).heap.size) (enc := encV) (x := (⟨⟨fresh, closedL path r, own⟩, AL, cL⟩ : PV)) (heap_alloc_new Wd (Obj.cells #[Value.int .i64 fresh, .slice AL (closedL path r).length cL, .string own] 37 (0, 0))) rfl (by simp)
                 clear hb9
                 generalize (World.alloc Wd _) = W9 at hog9 hlf9 hit9 ⊢
                 generalize Wd.heap.size = g9 at hit9 ⊢
                 refine wpAnyH_ready (rs := [12]) (by decide +kernel) (by simp) ?_
                 refine AllReadyH.cons rfl (fun K hK => ?_) AllReadyH.nil
                 refine step_append_itemsG kindV Tryz.underlying24 hog9.row [⟨⟨fresh, closedL path r, own⟩, AL, cL⟩] (some ⟨g9, 0, none⟩) 1 hit9 (fun e => by cases e) (by have := H64.out; unfold maxLen; simp; omega) (by have := H64.out; simp; omega) rfl _ _ (by rfl) (by rfl) (by rfl) ?_; rintro v9 WX HR9 hg9; obtain ⟨hq9, ho9, hs9⟩ := Og.more hog9 hlf9 HKN.out HR9 hg9; rw [HL4.out] at HR9 hs9; obtain ⟨A9, c9, hv9, hi9, hn9⟩ := HR9.items; rw [HLX.out] at hv9; subst hv9; have hso := Sorted_any l4 A9 c9 (by have := H64.out; rw [HLX.out]; omega) hn9 _ hi9; rw [HLX.out] at hso; have HSO := Lib.hid hso; clear hso; have HH9 := Lib.hid hq9; have HO9 := Lib.hid ho9; have HS9 := Lib.hid hs9; clear hg9 hog9 hlf9 hit9 hi9 hn9 hq9 ho9 hs9 HR9
                 refine hK.out _ _ ?_ (fun hHeld => ?_)
                 focus ((try dsimp only); exact (HH9.out.pt (.head _)).1; done)
                 clear hK K
                 (try simp only [Act.put, jA, jB, jC, jD, jE, jF])
                 refine wpAnyH_ready (rs := [13]) (by decide +kernel) (by simp) ?_
                 refine AllReadyH.cons rfl (fun K hK => ?_) AllReadyH.nil
                 (try simp only [jA, jB, jC])
                 go_simp
                 (go_at_call 21; refine HSO.out.mono ?_; rintro e' W10 ⟨v10, l5, rfl, hr10, hp10, hs10⟩; obtain ⟨A10, c10, hv10, -, -⟩ := hr10.items; subst hv10; have hq10 := HH9.out.on hr10.1; have h12 := Og.row2 hq10 (HO9.out.on hr10.1) (RowI.base hr10 HH9.out.1) (fun x hx => (HS9.out.on hr10.1) x (hp10.subset hx)); obtain ⟨u0, u1⟩ := hq10.pt (.head _); obtain ⟨f0, f1⟩ := hq10.fz (.head _); have H12 := Lib.hid h12; clear hq10 h12)
                 refine hK.out _ _ ?_ (fun hHeld => ?_)
                 focus ((try dsimp only); exact u0; done)
                 clear hK K
                 (try simp only [Act.put, jA, jB, jC, jD, jE, jF])
                 refine tZ 14 ?_
                 refine wpAnyH_ready (rs := [15]) (by decide +kernel) (by simp) ?_
                 refine AllReadyH.cons rfl (fun K hK => ?_) AllReadyH.nil
                 (try simp only [jA, jB, jC])
                 go_simp
                 refine hK.out _ _ ?_ (fun hHeld => ?_)
                 focus ((try dsimp only); exact (H12.out.hold.pt (.head _)).1; done)
                 clear hK K
                 (try simp only [Act.put, jA, jB, jC, jD, jE, jF])
                 refine wpAnyH_done (by decide +kernel) ?_ _
                 go_wp2_with fail
                 go_meet
                 exact ⟨_, _, l5, rfl, hp10, hs10, H12.out⟩
                ·(try simp only [jA, jB, jC])
                 go_simp
                 refine hK.out _ _ ?_ (fun hHeld => ?_)
                 focus ((try dsimp only); exact c0; done)
                 clear hK K
                 (try simp only [Act.put, jA, jB, jC, jD, jE, jF])
                 refine tZ 10 ?_
                 refine wpAnyH_ready (rs := [1, 11]) (by decide +kernel) (by simp) ?_
                 refine AllReadyH.cons rfl (fun K hK => ?_) (AllReadyH.cons rfl (fun K hK => ?_) AllReadyH.nil)
                 ·(try simp only [jA, jB, jC])
                  go_simp
                  refine hK.out _ _ ?_ (fun hHeld => ?_)
                  focus ((try dsimp only); exact c0; done)
                  clear hK K
                  (try simp only [Act.put, jA, jB, jC, jD, jE, jF])
                  refine wpAnyH_ready (rs := [11]) (by decide +kernel) (by simp) ?_
                  refine AllReadyH.cons rfl (fun K hK => ?_) AllReadyH.nil
                  (try simp only [jA, jB, jC])
                  go_simp
                  refine hK.out _ _ ?_ (fun hHeld => ?_)
                  focus ((try dsimp only); exact ((HOG8.out.hold.new #[Value.int .i64 fresh, .slice AL (closedL path r).length cL, .string own] 37).pt (.tail _ (.head _))).1; done)
                  clear hK K
                  (try simp only [Act.put, jA, jB, jC, jD, jE, jF])
                  have hb9 := (Below.refl _ Wd).alloc (Nat.le_refl _) (Obj.cells #[Value.int .i64 fresh, .slice AL (closedL path r).length cL, .string own] 37 (0, 0))
                  have hog9 := HOG8.out.on hb9
                  have hlf9 := row_on HLF8.out hb9
                  have hit9 := items_one (B := (Wd.alloc (Obj.cells #[Value.int .i64 fresh, .slice AL (closedL path r).length cL, .string own] 37 (0, 0))).heap.size) (enc := encV) (x := (⟨⟨fresh, closedL path r, own⟩, AL, cL⟩ : PV)) (heap_alloc_new Wd (Obj.cells #[Value.int .i64 fresh, .slice AL (closedL path r).length cL, .string own] 37 (0, 0))) rfl (by simp)
                  clear hb9
                  generalize (World.alloc Wd _) = W9 at hog9 hlf9 hit9 ⊢
                  generalize Wd.heap.size = g9 at hit9 ⊢
                  refine wpAnyH_ready (rs := [12]) (by decide +kernel) (by simp) ?_
                  refine AllReadyH.cons rfl (fun K hK => ?_) AllReadyH.nil
                  refine step_append_itemsG kindV Tryz.underlying24 hog9.row [⟨⟨fresh, closedL path r, own⟩, AL, cL⟩] (some ⟨g9, 0, none⟩) 1 hit9 (fun e => by cases e) (by have := H64.out; unfold maxLen; simp; omega) (by have := H64.out; simp; omega) rfl _ _ (by rfl) (by rfl) (by rfl) ?_; rintro v9 WX HR9 hg9; obtain ⟨hq9, ho9, hs9⟩ := Og.more hog9 hlf9 HKN.out HR9 hg9; rw [HL4.out] at HR9 hs9; obtain ⟨A9, c9, hv9, hi9, hn9⟩ := HR9.items; rw [HLX.out] at hv9; subst hv9; have hso := Sorted_any l4 A9 c9 (by have := H64.out; rw [HLX.out]; omega) hn9 _ hi9; rw [HLX.out] at hso; have HSO := Lib.hid hso; clear hso; have HH9 := Lib.hid hq9; have HO9 := Lib.hid ho9; have HS9 := Lib.hid hs9; clear hg9 hog9 hlf9 hit9 hi9 hn9 hq9 ho9 hs9 HR9
                  refine hK.out _ _ ?_ (fun hHeld => ?_)
                  focus ((try dsimp only); exact (HH9.out.pt (.head _)).1; done)
                  clear hK K
                  (try simp only [Act.put, jA, jB, jC, jD, jE, jF])
                  refine wpAnyH_ready (rs := [13]) (by decide +kernel) (by simp) ?_
                  refine AllReadyH.cons rfl (fun K hK => ?_) AllReadyH.nil
                  (try simp only [jA, jB, jC])
                  go_simp
                  (go_at_call 21; refine HSO.out.mono ?_; rintro e' W10 ⟨v10, l5, rfl, hr10, hp10, hs10⟩; obtain ⟨A10, c10, hv10, -, -⟩ := hr10.items; subst hv10; have hq10 := HH9.out.on hr10.1; have h12 := Og.row2 hq10 (HO9.out.on hr10.1) (RowI.base hr10 HH9.out.1) (fun x hx => (HS9.out.on hr10.1) x (hp10.subset hx)); obtain ⟨u0, u1⟩ := hq10.pt (.head _); obtain ⟨f0, f1⟩ := hq10.fz (.head _); have H12 := Lib.hid h12; clear hq10 h12)
                  refine hK.out _ _ ?_ (fun hHeld => ?_)
                  focus ((try dsimp only); exact u0; done)
                  clear hK K
                  (try simp only [Act.put, jA, jB, jC, jD, jE, jF])
                  refine tZ 14 ?_
                  refine wpAnyH_ready (rs := [15]) (by decide +kernel) (by simp) ?_
                  refine AllReadyH.cons rfl (fun K hK => ?_) AllReadyH.nil
                  (try simp only [jA, jB, jC])
                  go_simp
                  refine hK.out _ _ ?_ (fun hHeld => ?_)
                  focus ((try dsimp only); exact (H12.out.hold.pt (.head _)).1; done)
                  clear hK K
                  (try simp only [Act.put, jA, jB, jC, jD, jE, jF])
                  refine wpAnyH_done (by decide +kernel) ?_ _
                  go_wp2_with fail
                  go_meet
                  exact ⟨_, _, l5, rfl, hp10, hs10, H12.out⟩
                 ·(try simp only [jA, jB, jC])
                  go_simp
                  refine hK.out _ _ ?_ (fun hHeld => ?_)
                  focus ((try dsimp only); exact ((HOG8.out.hold.new #[Value.int .i64 fresh, .slice AL (closedL path r).length cL, .string own] 37).pt (.tail _ (.head _))).1; done)
                  clear hK K
                  (try simp only [Act.put, jA, jB, jC, jD, jE, jF])
                  have hb9 := (Below.refl _ Wd).alloc (Nat.le_refl _) (Obj.cells #[Value.int .i64 fresh, .slice AL (closedL path r).length cL, .string own] 37 (0, 0))
                  have hog9 := HOG8.out.on hb9
                  have hlf9 := row_on HLF8.out hb9
                  have hit9 := items_one (B := (Wd.alloc (Obj.cells #[Value.int .i64 fresh, .slice AL (closedL path r).length cL, .string own] 37 (0, 0))).heap.size) (enc := encV) (x := (⟨⟨fresh, closedL path r, own⟩, AL, cL⟩ : PV)) (heap_alloc_new Wd (Obj.cells #[Value.int .i64 fresh, .slice AL (closedL path r).length cL, .string own] 37 (0, 0))) rfl (by simp)
                  clear hb9
                  generalize (World.alloc Wd _) = W9 at hog9 hlf9 hit9 ⊢
                  generalize Wd.heap.size = g9 at hit9 ⊢
                  obtain ⟨e0, e1⟩ := hog9.hold.pt (.head _)
                  refine wpAnyH_ready (rs := [1]) (by decide +kernel) (by simp) ?_
                  refine AllReadyH.cons rfl (fun K hK => ?_) AllReadyH.nil
                  (try simp only [jA, jB, jC])
                  go_simp
                  refine hK.out _ _ ?_ (fun hHeld => ?_)
                  focus ((try dsimp only); exact e0; done)
                  clear hK K
                  (try simp only [Act.put, jA, jB, jC, jD, jE, jF])
                  clear e0 e1
                  refine wpAnyH_ready (rs := [12]) (by decide +kernel) (by simp) ?_
                  refine AllReadyH.cons rfl (fun K hK => ?_) AllReadyH.nil
                  refine step_append_itemsG kindV Tryz.underlying24 hog9.row [⟨⟨fresh, closedL path r, own⟩, AL, cL⟩] (some ⟨g9, 0, none⟩) 1 hit9 (fun e => by cases e) (by have := H64.out; unfold maxLen; simp; omega) (by have := H64.out; simp; omega) rfl _ _ (by rfl) (by rfl) (by rfl) ?_; rintro v9 WX HR9 hg9; obtain ⟨hq9, ho9, hs9⟩ := Og.more hog9 hlf9 HKN.out HR9 hg9; rw [HL4.out] at HR9 hs9; obtain ⟨A9, c9, hv9, hi9, hn9⟩ := HR9.items; rw [HLX.out] at hv9; subst hv9; have hso := Sorted_any l4 A9 c9 (by have := H64.out; rw [HLX.out]; omega) hn9 _ hi9; rw [HLX.out] at hso; have HSO := Lib.hid hso; clear hso; have HH9 := Lib.hid hq9; have HO9 := Lib.hid ho9; have HS9 := Lib.hid hs9; clear hg9 hog9 hlf9 hit9 hi9 hn9 hq9 ho9 hs9 HR9
                  refine hK.out _ _ ?_ (fun hHeld => ?_)
                  focus ((try dsimp only); exact (HH9.out.pt (.head _)).1; done)
                  clear hK K
                  (try simp only [Act.put, jA, jB, jC, jD, jE, jF])
                  refine wpAnyH_ready (rs := [13]) (by decide +kernel) (by simp) ?_
                  refine AllReadyH.cons rfl (fun K hK => ?_) AllReadyH.nil
                  (try simp only [jA, jB, jC])
                  go_simp
                  (go_at_call 21; refine HSO.out.mono ?_; rintro e' W10 ⟨v10, l5, rfl, hr10, hp10, hs10⟩; obtain ⟨A10, c10, hv10, -, -⟩ := hr10.items; subst hv10; have hq10 := HH9.out.on hr10.1; have h12 := Og.row2 hq10 (HO9.out.on hr10.1) (RowI.base hr10 HH9.out.1) (fun x hx => (HS9.out.on hr10.1) x (hp10.subset hx)); obtain ⟨u0, u1⟩ := hq10.pt (.head _); obtain ⟨f0, f1⟩ := hq10.fz (.head _); have H12 := Lib.hid h12; clear hq10 h12)
                  refine hK.out _ _ ?_ (fun hHeld => ?_)
                  focus ((try dsimp only); exact u0; done)
                  clear hK K
                  (try simp only [Act.put, jA, jB, jC, jD, jE, jF])
                  refine tZ 14 ?_
                  refine wpAnyH_ready (rs := [15]) (by decide +kernel) (by simp) ?_
                  refine AllReadyH.cons rfl (fun K hK => ?_) AllReadyH.nil
                  (try simp only [jA, jB, jC])
                  go_simp
                  refine hK.out _ _ ?_ (fun hHeld => ?_)
                  focus ((try dsimp only); exact (H12.out.hold.pt (.head _)).1; done)
                  clear hK K
                  (try simp only [Act.put, jA, jB, jC, jD, jE, jF])
                  refine wpAnyH_done (by decide +kernel) ?_ _
                  go_wp2_with fail
                  go_meet
                  exact ⟨_, _, l5, rfl, hp10, hs10, H12.out⟩
             case rest =>
              obtain ⟨A10, c10, l5, rfl, HP5, HS5, h12⟩ := hcut
              clear hcw8 c0 c1 HHO HOG8 HLF8 HKN
              as_aux_lemma =>
               have HL5 : Hid (∀ x ∈ l5, x.par.ring.length ≤ 1000 ∧ x.par.own.size ≤ maxLen) := fun x hx => HLW.out x (HP5.out.subset hx)
               have HE5 := Lib.hid (HPE.out l5 HP5.out HS5.out)
               have hl5 : l5.length ≤ 65 := by have := HP5.out.length_eq; have := HLX.out; have := H64.out; omega
               have ho2 : (putE o path).length ≤ 1000 := by have := (putE_len o path).2; have := HP.out.outP.2.2; omega
               have HDN : Hid (∀ W, PlanAt W (putE o path) D2 d2 l5 A10 c10 → Calls Tryz.prog 22 #[.agg #[.slice D2 (putE o path).length d2, .slice A10 l5.length c10]] W fun e w' => DoneAt W w' (putE o path) (docL (l.map PV.par) id path fresh) e) := fun W hp => by
                have hx := done_own (putE o path) D2 d2 l5 A10 c10 (by omega) ho2 (fun x hx => (HL5.out x hx).1) (fun x hx => (HL5.out x hx).2) W hp
                have e1 : lsR (putE o path) = putE o path := lstR_nrm (nrm_putC (nrm_putC (normP_iff.1 HP.out.out).2 (pF path)) (pL path))
                rw [e1, HE5.out] at hx
                exact hx
               have HPA2 := Lib.hid (h12.plan rfl ho2 (fun x hx => (HL5.out x hx).1))
               have HDS := Lib.hid (doc_same (path := path) (fresh := fresh) HK.out HMI.out)
               have HFT : Hid (ftE (idsQ (l.map PV.par)) (rgQ (l.map PV.par) id) path fresh = 0) := by unfold Hid; rw [HRG.out]; exact HF.out
               obtain ⟨c2', c3'⟩ := h12.hold.pt (.head _)
               have HH12 := Lib.hid h12.hold
               clear h12 hl5 ho2
               have hKX := HKX.out
               go_wp2_with fail
               go_at_call 22
               refine (HDN.out _ HPA2.out).mono ?_
               rintro e' W11 ⟨hB11, hd⟩
               have HQ11 := Lib.hid (HH12.out.on hB11).tail
               clear c2' c3' HDN HPA2
               rcases hd with ⟨hc, rfl⟩ | ⟨hc, E1, e1', l6, Ep, ep, rfl, hm6, hr6, hv6, hs6⟩
               ·have HE : Hid (sptE o (l.map PV.par) id path fresh = 8) := sp_cross HK.out HMI.out HFT.out (by rw [← HDS.out.1]; exact hc)
                clear hc hB11
                obtain ⟨c2, c3⟩ := HQ11.out.pt (.head _)
                obtain ⟨c4, c5⟩ := HQ11.out.fz (.head _)
                rename_i KA hKA KB hKB
                refine hKB _ _ ?_
                clear hKB KB
                have HKA := Lib.hid hKA
                clear hKA
                clear b0 b2 b3 b4 b5 b6 b7 b12 b13 b20 e1 e6 hr0 hn128 hHeld hk2
                go_wp2_with fail
                refine HKA.out _ _ (wp_ret ?_)
                clear HKA KA c2 c3 c4 c5
                show bodyPost Tryz.prog Tryz.f8 (fun e w' => SplitAt w w' o (l.map PV.par) id path fresh e) .ret _ _
                have HE2 := HQ11.out.set2 (.slice none 0 0) (.slice none 0 0)
                obtain ⟨n0, n1⟩ := HE2.pt (.head _)
                refine bodyPost_ret (v := .tuple #[.agg #[.slice none 0 0, .slice none 0 0], .int .i64 8]) ?_ rfl ⟨HE2.1, .inl ⟨by rw [HE.out]; decide, by rw [HE.out]⟩⟩
                simp [results, Tryz.results8, go_sem, n0, n1]
               ·have hc2 : chkQ (putE o path) (sptL (l.map PV.par) id path fresh) = true := by rw [← HDS.out.1]; exact hc
                have HE : Hid (sptE o (l.map PV.par) id path fresh = 0) := sp_ok HK.out HMI.out HFT.out hc2
                have HM6 : Hid (l6.map PV.par = sptL (l.map PV.par) id path fresh) := hm6.trans (HDS.out.2 hc2)
                have hog := Og.mkSet HQ11.out (hr6.base HH12.out.1) (hv6.base HH12.out.1) (OwnRs.base hs6 HH12.out.1)
                obtain ⟨c2, c3⟩ := HQ11.out.pt (.head _)
                obtain ⟨c4, c5⟩ := HQ11.out.fz (.head _)
                have HOG := Lib.hid hog
                clear hc hc2 hm6 hr6 hv6 hs6 hog hB11
                rename_i KA hKA KB hKB
                refine hKB _ _ ?_
                clear hKB KB
                have HKA := Lib.hid hKA
                clear hKA
                clear b0 b2 b3 b4 b5 b6 b7 b12 b13 b20 e1 e6 hr0 hn128 hHeld hk2
                go_wp2_with fail
                refine HKA.out _ _ (wp_ret ?_)
                clear HKA KA c2 c3 c4 c5
                show bodyPost Tryz.prog Tryz.f8 (fun e w' => SplitAt w w' o (l.map PV.par) id path fresh e) .ret _ _
                obtain ⟨n0, n1⟩ := HOG.out.hold.pt (.head _)
                refine bodyPost_ret (v := .tuple #[.agg #[.slice E1 _ e1', .slice Ep l6.length ep], .int .i64 0]) ?_ rfl ⟨HOG.out.hold.1, .inr ⟨HE.out, E1, e1', Ep, ep, l6, rfl, HM6.out, HOG.out.out, HOG.out.row, HOG.out.rs⟩⟩
                simp [results, Tryz.results8, go_sem, n0, n1]
          ·obtain ⟨jp, rfl⟩ : ∃ jp, j = jp + 1 := ⟨j - 1, by omega⟩
           have hz : z = (jp : Int) := by have := HZ.out; omega
           subst hz
           have hjp : jp < path.length := HJ2.out
           have hwe := HVL.out.1.trans (HV2.out.1.mono HVL.out.1.size)
           have hww := HOX.out.hold.1.trans (hwe.mono HOX.out.hold.1.size)
           obtain ⟨a1, e1', -, x0, x1⟩ := (HPA.out _ hww).nx (k := jp) (i := jp) (Below.refl _ _) hjp (Nat.mod_eq_of_lt hjp)
           obtain rfl := Option.some.inj e1'
           have HST : Hid ((path.drop jp).reverse = (path.drop (jp + 1)).reverse ++ [nx path jp]) := rev_step hjp
           have HNQ : Hid ((path.drop (jp + 1)).reverse.length ≤ 1000000000) := by unfold Hid; rw [List.length_reverse, List.length_drop]; omega
           have b16 : (0 : Int) ≤ (jp : Int) := by omega
           have b17 : (jp : Int) < (path.length : Int) := by omega
           have b18 : (path.length : Int) ≤ 128 := by omega
           have hv2 := HV2.out
           generalize nx path jp = u at *
           clear hwe hww hj hjp
           go_wp2_with (at_builtin; refine append_pt _ Tryz.underlying23 hv2 HNQ.out u _ rfl _ _ rfl rfl _ rfl ?_; rintro v9 w9 HR9)
           go_roundg jp
           case measure => have := HGJ2.out; omega
           case rel => exact ⟨jp, (jp : Int) - 1, by have := HJ2.out; show jp ≤ path.length; omega, rfl, rfl, by go_num, by show Row We _ (path.drop jp).reverse _; rw [HST.out]; exact HR9⟩
end Go.Proofs.YtaedlfiafnbceaaGreat
