/- The program's Mark: a corner more in all rings that have the edge. -/
import Derived.Test.YtcibaophoioeeaaGreatBendN
import Derived.Test.YtcibaophoioeeaaGreatCorn
import Derived.Test.YtcibaophoioeeaaGreatSplI
import Derived.Test.YtcibaophoioeeaaGreatRefSame
namespace Go.Proofs.YtcibaophoioeeaaGreat
open Go.RowKit

noncomputable def cB (ps : List Par) (p : Int × Int) : Bool := @decide (∃ x ∈ ps, p ∈ x.ring) (Classical.propDecidable _)
def edB (ps : List Par) (p : Int × Int) : Bool := ps.any fun x => onE x.ring p
theorem cB_iff {ps : List Par} {p : Int × Int} : cB ps p = true ↔ ∃ x ∈ ps, p ∈ x.ring := by unfold cB; exact @decide_eq_true_iff _ (Classical.propDecidable _)
theorem cB_of (l : List PV) (p : Int × Int) : cornB l p = cB (l.map PV.par) p := by
 rw [Bool.eq_iff_iff, cornB_iff, cB_iff]
 constructor
 ·rintro ⟨x, hx, h⟩; exact ⟨x.par, List.mem_map_of_mem hx, h⟩
 ·rintro ⟨y, hy, h⟩
  obtain ⟨x, hx, rfl⟩ := List.mem_map.1 hy
  exact ⟨x, hx, h⟩
theorem edB_of (l : List PV) (p : Int × Int) : (l.any fun x => onE x.par.ring p) = edB (l.map PV.par) p := by
 unfold edB
 rw [List.any_map]
 rfl
noncomputable def mkE (o : List (Int × Int)) (ps : List Par) (p : Int × Int) : Int :=
 if chkQ o ps = false then 2 else if gd p = false then 3 else if cB ps p = true then 6 else if edB ps p = false then 7 else if chkQ (putC o p) (ps.map (ptP p)) = false then 8 else 0
theorem mk_form {o : List (Int × Int)} {ps : List Par} {p : Int × Int} (h1 : chkQ o ps = false) : mkE o ps p = 2 := by unfold mkE; rw [if_pos h1]
theorem mk_range {o : List (Int × Int)} {ps : List Par} {p : Int × Int} (h1 : chkQ o ps = true) (h2 : gd p = false) : mkE o ps p = 3 := by unfold mkE; rw [if_neg (by rw [h1]; decide), if_pos h2]
theorem mk_there {o : List (Int × Int)} {ps : List Par} {p : Int × Int} (h1 : chkQ o ps = true) (h2 : gd p = true) (h3 : cB ps p = true) : mkE o ps p = 6 := by unfold mkE; rw [if_neg (by rw [h1]; decide), if_neg (by rw [h2]; decide), if_pos h3]
theorem mk_side {o : List (Int × Int)} {ps : List Par} {p : Int × Int} (h1 : chkQ o ps = true) (h2 : gd p = true) (h3 : cB ps p = false) (h4 : edB ps p = false) : mkE o ps p = 7 := by unfold mkE; rw [if_neg (by rw [h1]; decide), if_neg (by rw [h2]; decide), if_neg (by rw [h3]; decide), if_pos h4]
theorem mk_cross {o : List (Int × Int)} {ps : List Par} {p : Int × Int} (h1 : chkQ o ps = true) (h2 : gd p = true) (h3 : cB ps p = false) (h4 : edB ps p = true) (h5 : chkQ (putC o p) (ps.map (ptP p)) = false) : mkE o ps p = 8 := by unfold mkE; rw [if_neg (by rw [h1]; decide), if_neg (by rw [h2]; decide), if_neg (by rw [h3]; decide), if_neg (by rw [h4]; decide), if_pos h5]
theorem mk_ok {o : List (Int × Int)} {ps : List Par} {p : Int × Int} (h1 : chkQ o ps = true) (h2 : gd p = true) (h3 : cB ps p = false) (h4 : edB ps p = true) (h5 : chkQ (putC o p) (ps.map (ptP p)) = true) : mkE o ps p = 0 := by unfold mkE; rw [if_neg (by rw [h1]; decide), if_neg (by rw [h2]; decide), if_neg (by rw [h3]; decide), if_neg (by rw [h4]; decide), if_neg (by rw [h5]; decide)]
def MarkAt (w w' : World) (o : List (Int × Int)) (ps : List Par) (p : Int × Int) (e : Ending) : Prop :=
 Below w.heap.size w w' ∧ ((mkE o ps p ≠ 0 ∧ e = .returned (.tuple #[.agg #[.slice none 0 0, .slice none 0 0], .int .i64 (mkE o ps p)])) ∨
  (mkE o ps p = 0 ∧ ∃ A1 c1 Ap1 cp1 l', e = .returned (.tuple #[.agg #[.slice A1 (putC o p).length c1, .slice Ap1 l'.length cp1], .int .i64 0]) ∧ l'.map PV.par = ps.map (ptP p) ∧ Row w (.slice A1 (putC o p).length c1) (putC o p) w' ∧ RowI w 45 3 encV (.slice Ap1 l'.length cp1) l' w' ∧ OwnRs w l' w'))
theorem nm_sound {r : List (Int × Int)} (h : NormP (nmL r)) : chE r = 0 := by
 by_cases hc : chE r = 0
 ·exact hc
 ·have h3 := (norm_sound h).1
  unfold nmL at h3
  rw [if_neg hc] at h3
  simp at h3
theorem nm_le (r : List (Int × Int)) : (nmL r).length ≤ r.length := by
 by_cases h : chE r = 0
 ·rw [nmL_len h]; exact Nat.le_refl _
 ·unfold nmL
  rw [if_neg h]
  exact Nat.zero_le _
theorem nm_nrm {r : List (Int × Int)} (h : chE r = 0) (hn : Nrm r) : nmL r = r := by
 rw [nmL_eq h]
 exact lstR_nrm hn
theorem mark_same {o : List (Int × Int)} {ps : List Par} {p : Int × Int} (hP : PlanQ o ps) :
  chkQ (nmL (putC o p)) (ps.map fun x => (⟨x.id, nmL (putC x.ring p), x.own⟩ : Par)) = chkQ (putC o p) (ps.map (ptP p)) ∧ (chkQ (putC o p) (ps.map (ptP p)) = true → nmL (putC o p) = putC o p ∧ (ps.map fun x => (⟨x.id, nmL (putC x.ring p), x.own⟩ : Par)) = ps.map (ptP p)) := by
 by_cases hall : chE (putC o p) = 0 ∧ ∀ x ∈ ps, chE (putC x.ring p) = 0
 ·have e1 : nmL (putC o p) = putC o p := nm_nrm hall.1 (nrm_putC (normP_iff.1 hP.out).2 p)
  have e2 : (ps.map fun x => (⟨x.id, nmL (putC x.ring p), x.own⟩ : Par)) = ps.map (ptP p) := List.map_congr_left fun x hx => by
   unfold ptP
   rw [nm_nrm (hall.2 x hx) (nrm_putC (normP_iff.1 (hP.each x hx)).2 p)]
  rw [e1, e2]
  exact ⟨rfl, fun _ => ⟨rfl, rfl⟩⟩
 ·have f1 : chkQ (nmL (putC o p)) (ps.map fun x => (⟨x.id, nmL (putC x.ring p), x.own⟩ : Par)) = false := by
   cases hc : chkQ (nmL (putC o p)) (ps.map fun x => (⟨x.id, nmL (putC x.ring p), x.own⟩ : Par))
   ·rfl
   ·have hQ := (chkQ_iff _ _).1 hc
    exact absurd ⟨nm_sound hQ.out, fun x hx => nm_sound (hQ.each _ (List.mem_map_of_mem hx))⟩ hall
  have f2 : chkQ (putC o p) (ps.map (ptP p)) = false := by
   cases hc : chkQ (putC o p) (ps.map (ptP p))
   ·rfl
   ·have hQ := (chkQ_iff _ _).1 hc
    exact absurd ⟨(normP_iff.1 hQ.out).1, fun x hx => (normP_iff.1 (hQ.each _ (List.mem_map_of_mem hx))).1⟩ hall
  rw [f1, f2]
  exact ⟨rfl, fun h => by cases h⟩
theorem markC_at (ps : List (Int × Int)) (A : Option Addr) (cap : Nat) (p : Int × Int) (g : Nat) (hs : Sound ps) (hg : gdL ps = true) (hp : Gd p) (hnp : p ∉ ps) (hn : ps.length ≤ 1000) (hcap : ps.length ≤ cap) (w : World) (hr : Pts w w.heap.size A ps) (hc : w.heap[g]? = some (.cells #[.int .i64 p.1, .int .i64 p.2] 28 (0, 0))) :
  Calls Tryz.prog 34 #[.slice A ps.length cap, .pointer (some ⟨g, 0, none⟩)] w fun e w' => RingTo w w' (putC ps p) e := by
 obtain ⟨ad, rfl, -, -⟩ := hr (by have := hs.1; omega)
 exact markC_any ps ad cap p g hs hg hp hnp hn hcap w hr (blk_cell hc 0) (blk_cell hc 1) (blk_lt hc)
set_option maxRecDepth 100000 in
set_option maxHeartbeats 8000000 in
theorem Mark_any (o : List (Int × Int)) (Ao : Option Addr) (co : Nat) (l : List PV) (Ap : Option Addr) (cp : Nat) (p : Int × Int) (hl : l.length ≤ 1000000) (ho : o.length ≤ 8796093022208) (hown : ∀ x ∈ l, x.par.own.size ≤ maxLen) (w : World) (h : PlanAt w o Ao co l Ap cp) :
  Calls Tryz.prog 14 #[.agg #[.slice Ao o.length co, .slice Ap l.length cp], .agg #[.int .i64 p.1, .int .i64 p.2]] w fun e w' => MarkAt w w' o (l.map PV.par) p e := by
 have HCO := Lib.hid (fun W (hb : Below w.heap.size w W) => Corner_any o Ao co l Ap cp p hl ho hown W (h.on hb))
 have HPA := Lib.hid (fun W (hb : Below w.heap.size w W) => h.on hb)
 have HLL := Lib.hid hl
 have HOW := Lib.hid hown
 have HQ := (((Hold.refl w).new #[.slice Ao o.length co, .slice Ap l.length cp] 26).new' #[.int .i64 p.1, .int .i64 p.2] 28 (n := w.heap.size + 1) (by simp)).new' #[.slice none 0 0, .slice none 0 0] 26 (n := w.heap.size + 1 + 1) (by simp)
 clear h hl ho hown
 go_enter Tryz.func14, Tryz.ntmps14
 go_upto_region 1 with (fail)
 generalize (World.alloc _ _) = W1 at HQ ⊢
 generalize w.heap.size + 1 + 1 = g4 at HQ ⊢
 generalize w.heap.size + 1 = g3 at HQ ⊢
 obtain ⟨g2, hg2⟩ : ∃ g, w.heap.size = g := ⟨_, rfl⟩
 rw [hg2] at HQ ⊢
 have HQX := Lib.hid HQ
 have HG2 := Lib.hid hg2
 clear hg2
 obtain ⟨c0, c1⟩ := HQ.pt (.tail _ (.tail _ (.head _)))
 obtain ⟨d0, d1⟩ := HQ.pt (.tail _ (.head _))
 clear HQ
 go_wp2_with fail
 go_at_call 26
 refine (HCO.out _ HQX.out.1).mono ?_
 rintro e' W2 ⟨rfl, hB⟩
 have HQ2 := Lib.hid (HQX.out.on hB)
 clear hB c0 c1 d0 d1 HCO
 cases hcb : chkB o l
 ·rw [(cn_bad p hcb).1, (cn_bad p hcb).2]
  have HE := Lib.hid (mk_form (p := p) ((chkQ_of o l).symm.trans hcb))
  clear hcb
  obtain ⟨y0, y1⟩ := HQ2.out.pt (.head _)
  obtain ⟨z0, z1⟩ := HQ2.out.fz (.head _)
  go_wp2
  have HE2 := HQ2.out.set2 (.slice none 0 0) (.slice none 0 0)
  obtain ⟨n0, n1⟩ := HE2.pt (.head _)
  refine bodyPost_ret (v := .tuple #[.agg #[.slice none 0 0, .slice none 0 0], .int .i64 2]) ?_ rfl ⟨HE2.1, .inl ⟨by rw [HE.out]; decide, by rw [HE.out]⟩⟩
  simp [results, Tryz.results14, go_sem, n0, n1]
 ·have HCB := Lib.hid ((chkQ_of o l).symm.trans hcb)
  cases hp : gd p
  ·rw [(cn_far hcb hp).1, (cn_far hcb hp).2]
   have HE := Lib.hid (mk_range HCB.out hp)
   clear hcb hp
   obtain ⟨y0, y1⟩ := HQ2.out.pt (.head _)
   obtain ⟨z0, z1⟩ := HQ2.out.fz (.head _)
   go_wp2
   have HE2 := HQ2.out.set2 (.slice none 0 0) (.slice none 0 0)
   obtain ⟨n0, n1⟩ := HE2.pt (.head _)
   refine bodyPost_ret (v := .tuple #[.agg #[.slice none 0 0, .slice none 0 0], .int .i64 3]) ?_ rfl ⟨HE2.1, .inl ⟨by rw [HE.out]; decide, by rw [HE.out]⟩⟩
   simp [results, Tryz.results14, go_sem, n0, n1]
  ·rw [(cn_good hcb hp).1, (cn_good hcb hp).2]
   have HGP := Lib.hid hp
   have HCP : Hid (CheckP o l) := chkB_iff.1 hcb
   have HPQ : Hid (PlanQ o (l.map PV.par)) := chkB_plan.1 hcb
   clear hcb hp
   cases hco : cornB l p
   ·have HNC := Lib.hid hco
    have HNB := Lib.hid ((cB_of l p).symm.trans hco)
    have hring : ∀ x ∈ l, Sound x.par.ring ∧ gdL x.par.ring = true ∧ x.par.ring.length ≤ 128 := fun x hx => HPQ.out.ringP (List.mem_map_of_mem hx)
    have hno : ¬ (p ∈ o ∨ ∃ x ∈ l, p ∈ x.par.ring) := fun hh => by
     have := cornB_iff.2 ((corner_any HCP.out p).1 hh)
     rw [hco] at this
     cases this
    have HOE := Lib.hid (fun W (hb : Below w.heap.size w W) => onEdge_any o Ao co l Ap cp p HLL.out (gd_iff.1 HGP.out) (fun x hx => ⟨(hring x hx).2.1, by have := (hring x hx).2.2; omega⟩) W (HPA.out W hb).prs)
    rw [edB_of] at HOE
    have HRI := Lib.hid hring
    have HNO := Lib.hid hno
    clear hco hring hno
    obtain ⟨c0, c1⟩ := HQ2.out.pt (.tail _ (.tail _ (.head _)))
    obtain ⟨d0, d1⟩ := HQ2.out.pt (.tail _ (.head _))
    go_wp2_with fail
    go_at_call 33
    refine (HOE.out _ HQ2.out.1).mono ?_
    rintro e' W3 ⟨rfl, hB⟩
    have HQ3 := HQ2.out.on hB
    clear hB c0 c1 d0 d1 HOE HQ2
    have HQ2 := Lib.hid HQ3
    clear HQ3
    cases hed : edB (l.map PV.par) p
    ·have HE := Lib.hid (mk_side HCB.out HGP.out HNB.out hed)
     clear hed
     obtain ⟨y0, y1⟩ := HQ2.out.pt (.head _)
     obtain ⟨z0, z1⟩ := HQ2.out.fz (.head _)
     go_wp2
     have HE2 := HQ2.out.set2 (.slice none 0 0) (.slice none 0 0)
     obtain ⟨n0, n1⟩ := HE2.pt (.head _)
     refine bodyPost_ret (v := .tuple #[.agg #[.slice none 0 0, .slice none 0 0], .int .i64 7]) ?_ rfl ⟨HE2.1, .inl ⟨by rw [HE.out]; decide, by rw [HE.out]⟩⟩
     simp [results, Tryz.results14, go_sem, n0, n1]
    ·have HED := Lib.hid hed
     clear hed
     have hP2 := HPA.out _ HQ2.out.1
     have hcell := (HQ2.out.2.1 _ (.tail _ (.head _))).1
     have hgp := gd_iff.1 HGP.out
     have hoP := HPQ.out.outP
     have hlen : ∀ r : List (Int × Int), r.length ≤ 128 → (nmL (putC r p)).length ≤ 1000 ∧ (putC r p).length ≤ maxLen := fun r hr => by
      have a := (putC_len r p).2
      have b := nm_le (putC r p)
      exact ⟨by omega, by unfold maxLen; omega⟩
     have h64 := HPQ.out.fine.2.2.2.1
     rw [List.length_map] at h64
     have HAN := Lib.hid (anewM_any o Ao co l Ap cp (fun r => putC r p) (nmL (putC o p)) rfl g3 h64 (hlen o hoP.2.2) (fun x hx => ⟨(hlen _ (HRI.out x hx).2.2).1, HOW.out x hx, (hlen _ (HRI.out x hx).2.2).2⟩) _ hP2
      (fun W hb => markC_at o Ao co p g3 hoP.1 hoP.2.1 hgp (fun hh => HNO.out (.inl hh)) (by omega) hP2.caps.1 W (hP2.out.on hb) ((hb.block _ (blk_lt hcell)).trans hcell))
      (fun x hx W hb => markC_at x.par.ring x.A x.cap p g3 (HRI.out x hx).1 (HRI.out x hx).2.1 hgp (fun hh => HNO.out (.inr ⟨x, hx, hh⟩)) (by have := (HRI.out x hx).2.2; omega) (hP2.caps.2 x hx) W ((hP2.prs.2 x hx).1.on hb) ((hb.block _ (blk_lt hcell)).trans hcell)))
     have hms := mark_same (p := p) HPQ.out
     have emap : (l.map (parB fun r => putC r p)) = (l.map PV.par).map fun x => (⟨x.id, nmL (putC x.ring p), x.own⟩ : Par) := by rw [List.map_map]; rfl
     rw [emap] at HAN
     have HMS := Lib.hid hms
     clear hP2 hcell hgp hoP hlen h64 hms emap
     obtain ⟨c0, c1⟩ := HQ2.out.pt (.tail _ (.tail _ (.head _)))
     go_wp2_with fail
     go_at_call 28
     refine HAN.out.mono ?_
     rintro e' W4 ⟨hB, hd⟩
     have HQ4 := HQ2.out.on hB
     have hB0 := HQ2.out.1
     clear c0 c1 HAN
     rcases hd with ⟨hc, rfl⟩ | ⟨hc, A1, c1, Ap1, cp1, l', rfl, hm, h1, h2, h3⟩
     ·have HE := Lib.hid (mk_cross HCB.out HGP.out HNB.out HED.out (HMS.out.1.symm.trans hc))
      clear hc hB hB0 HQ2
      have HQ2 := Lib.hid HQ4
      clear HQ4
      obtain ⟨y0, y1⟩ := HQ2.out.pt (.head _)
      obtain ⟨z0, z1⟩ := HQ2.out.fz (.head _)
      go_wp2
      have HE2 := HQ2.out.set2 (.slice none 0 0) (.slice none 0 0)
      obtain ⟨n0, n1⟩ := HE2.pt (.head _)
      refine bodyPost_ret (v := .tuple #[.agg #[.slice none 0 0, .slice none 0 0], .int .i64 8]) ?_ rfl ⟨HE2.1, .inl ⟨by rw [HE.out]; decide, by rw [HE.out]⟩⟩
      simp [results, Tryz.results14, go_sem, n0, n1]
     ·have hc2 := HMS.out.1.symm.trans hc
      have HE := Lib.hid (mk_ok HCB.out HGP.out HNB.out HED.out hc2)
      obtain ⟨e1, e2⟩ := HMS.out.2 hc2
      rw [e1] at h1 ⊢
      rw [e2] at hm
      have hog := Og.mkSet HQ4 (h1.base hB0) (RowI.base h2 hB0) (OwnRs.base h3 hB0)
      have HOG := Lib.hid hog
      have HM := Lib.hid hm
      obtain ⟨y0, y1⟩ := HQ4.pt (.head _)
      obtain ⟨z0, z1⟩ := HQ4.fz (.head _)
      clear hc hc2 hB hB0 hog hm h1 h2 h3 HQ4 e1 e2
      go_wp2
      obtain ⟨n0, n1⟩ := HOG.out.hold.pt (.head _)
      refine bodyPost_ret (v := .tuple #[.agg #[.slice A1 (putC o p).length c1, .slice Ap1 l'.length cp1], .int .i64 0]) ?_ rfl ⟨HOG.out.hold.1, .inr ⟨HE.out, A1, c1, Ap1, cp1, l', rfl, HM.out, HOG.out.out, HOG.out.row, HOG.out.rs⟩⟩
      simp [results, Tryz.results14, go_sem, n0, n1]
   ·have HE := Lib.hid (mk_there HCB.out HGP.out ((cB_of l p).symm.trans hco))
    clear hco
    obtain ⟨y0, y1⟩ := HQ2.out.pt (.head _)
    obtain ⟨z0, z1⟩ := HQ2.out.fz (.head _)
    go_wp2
    have HE2 := HQ2.out.set2 (.slice none 0 0) (.slice none 0 0)
    obtain ⟨n0, n1⟩ := HE2.pt (.head _)
    refine bodyPost_ret (v := .tuple #[.agg #[.slice none 0 0, .slice none 0 0], .int .i64 6]) ?_ rfl ⟨HE2.1, .inl ⟨by rw [HE.out]; decide, by rw [HE.out]⟩⟩
    simp [results, Tryz.results14, go_sem, n0, n1]
end Go.Proofs.YtcibaophoioeeaaGreat

namespace Go.Proofs.YtcibaophoioeeaaGreat
open Go.RowKit
theorem put_on {r : List (Int × Int)} {p : Int × Int} (hs : Sound r) (hp : p ∉ r) : p ∈ putC r p ↔ onE r p = true := by
 have h3 := hs.1
 cases hE : onE r p
 ·have hoff : putC r p = r := putC_off fun i hi hins => by
   have := onE_yes hi (onB_iff.2 hins.1)
   rw [hE] at this
   cases this
  rw [hoff]
  exact ⟨fun h => absurd h hp, fun h => by cases h⟩
 ·obtain ⟨k, hk, ho⟩ := List.any_eq_true.1 hE
  rw [List.mem_range] at hk
  have hi : Ins (nx r k) (nx r (k + 1)) p := ⟨onB_iff.1 ho, fun e => hp (e ▸ nx_memC (by omega) k), fun e => hp (e ▸ nx_memC (by omega) (k + 1))⟩
  rw [putC_first hs hk hi]
  exact ⟨fun _ => rfl, fun _ => by simp⟩
theorem ed_put {ps : List Par} {p : Int × Int} (hs : ∀ x ∈ ps, Sound x.ring) (hc : cB ps p = false) : cB (ps.map (ptP p)) p = edB ps p := by
 have hno : ∀ x ∈ ps, p ∉ x.ring := fun x hx hh => by
  have := cB_iff.2 ⟨x, hx, hh⟩
  rw [hc] at this
  cases this
 rw [Bool.eq_iff_iff, cB_iff]
 unfold edB
 rw [List.any_eq_true]
 constructor
 ·rintro ⟨y, hy, h⟩
  obtain ⟨x, hx, rfl⟩ := List.mem_map.1 hy
  exact ⟨x, hx, (put_on (hs x hx) (hno x hx)).1 h⟩
 ·rintro ⟨x, hx, h⟩
  exact ⟨ptP p x, List.mem_map_of_mem hx, (put_on (hs x hx) (hno x hx)).2 h⟩
theorem ls_snd {n : Nat} {qs : List Par} (h : ∀ x ∈ qs, SndR n x.ring) : qs.map lsP = qs := by
 have e : qs.map lsP = qs.map id := List.map_congr_left fun x hx => by
  unfold lsP
  rw [lsR_snd (h x hx)]
  rfl
 rw [e, List.map_id]
set_option maxRecDepth 100000 in
set_option maxHeartbeats 8000000 in
theorem ref_mark (o : List (Int × Int)) (Ao : Option Addr) (co : Nat) (l : List PV) (Ap : Option Addr) (cp : Nat) (p : Int × Int) (hl : l.length ≤ 1000000) (ho : o.length ≤ 1000000000) (hown : ∀ x ∈ l, x.par.own.size ≤ maxLen) (w : World) (h : PlanAt w o Ao co l Ap cp) :
  Calls Tryz.prog 15 #[.agg #[.slice Ao o.length co, .slice Ap l.length cp], .agg #[.int .i64 p.1, .int .i64 p.2]] w fun e w' => MarkAt w w' o (l.map PV.par) p e := by
 have HCK := Lib.hid (fun W (hb : Below w.heap.size w W) => (by
  have hx := ref_chk o Ao co l Ap cp hl ho hown W (h.on hb).prs (h.on hb).out
  rw [chkQ_of] at hx
  exact hx : Calls Tryz.prog 18 #[.agg #[.slice Ao o.length co, .slice Ap l.length cp]] W fun e' w' => e' = .returned (.bool (chkQ o (l.map PV.par))) ∧ Below W.heap.size W w'))
 have hgo := fun W t => ref_good_one p 1 W t
 have HCO := Lib.hid (fun W (hb : Below w.heap.size w W) => ref_corner o Ao co l Ap cp p hl W (h.on hb).prs)
 rw [cB_of] at HCO
 have HIN := Lib.hid (fun (hP : PlanQ o (l.map PV.par)) (hp : Gd p) W (hb : Below w.heap.size w W) => ins_snd o Ao co l Ap cp p hP.snd (by decide) hp W (h.on hb))
 have HOW := Lib.hid hown
 have eg : gdL [p] = gd p := by simp [gdL]
 rw [eg] at hgo
 have HGO := Lib.hid hgo
 have HQ := (((Hold.refl w).new #[.slice Ao o.length co, .slice Ap l.length cp] 26).new' #[.int .i64 p.1, .int .i64 p.2] 28 (n := w.heap.size + 1) (by simp)).new' #[.slice none 0 0, .slice none 0 0] 26 (n := w.heap.size + 1 + 1) (by simp)
 clear h hl ho hown hgo eg
 go_enter Tryz.func15, Tryz.ntmps15
 go_upto_region 1 with (fail)
 generalize (World.alloc _ _) = W1 at HQ ⊢
 generalize w.heap.size + 1 + 1 = g4 at HQ ⊢
 generalize w.heap.size + 1 = g3 at HQ ⊢
 obtain ⟨g2, hg2⟩ : ∃ g, w.heap.size = g := ⟨_, rfl⟩
 rw [hg2] at HQ ⊢
 have HQX := Lib.hid HQ
 have HG2 := Lib.hid hg2
 clear hg2
 obtain ⟨c0, c1⟩ := HQ.pt (.tail _ (.tail _ (.head _)))
 clear HQ
 go_wp2_with fail
 go_at_call 18
 refine (HCK.out _ HQX.out.1).mono ?_
 rintro e' W2 ⟨rfl, hB⟩
 have HQ2 := Lib.hid (HQX.out.on hB)
 clear hB c0 c1 HCK
 cases hcb : chkQ o (l.map PV.par)
 ·have HE := Lib.hid (mk_form (p := p) hcb)
  clear hcb
  obtain ⟨y0, y1⟩ := HQ2.out.pt (.head _)
  obtain ⟨z0, z1⟩ := HQ2.out.fz (.head _)
  go_wp2
  have HE2 := HQ2.out.set2 (.slice none 0 0) (.slice none 0 0)
  obtain ⟨n0, n1⟩ := HE2.pt (.head _)
  refine bodyPost_ret (v := .tuple #[.agg #[.slice none 0 0, .slice none 0 0], .int .i64 2]) ?_ rfl ⟨HE2.1, .inl ⟨by rw [HE.out]; decide, by rw [HE.out]⟩⟩
  simp [results, Tryz.results15, go_sem, n0, n1]
 ·have HCB := Lib.hid hcb
  have HPQ : Hid (PlanQ o (l.map PV.par)) := (chkQ_iff _ _).1 hcb
  clear hcb
  obtain ⟨d0, d1⟩ := HQ2.out.pt (.tail _ (.head _))
  go_wp2_with fail
  go_at_call 24
  refine (HGO.out _ _).mono ?_
  rintro e' W3 ⟨rfl, hB⟩
  have HQ3 := (HQ2.out.alloc _).on (hB.mono (by simp only [World.size_alloc]; omega))
  clear hB d0 d1 HQ2
  have HQ2 := Lib.hid HQ3
  clear HQ3
  cases hp : gd p
  ·have HE := Lib.hid (mk_range HCB.out hp)
   clear hp
   obtain ⟨y0, y1⟩ := HQ2.out.pt (.head _)
   obtain ⟨z0, z1⟩ := HQ2.out.fz (.head _)
   go_wp2
   have HE2 := HQ2.out.set2 (.slice none 0 0) (.slice none 0 0)
   obtain ⟨n0, n1⟩ := HE2.pt (.head _)
   refine bodyPost_ret (v := .tuple #[.agg #[.slice none 0 0, .slice none 0 0], .int .i64 3]) ?_ rfl ⟨HE2.1, .inl ⟨by rw [HE.out]; decide, by rw [HE.out]⟩⟩
   simp [results, Tryz.results15, go_sem, n0, n1]
  ·have HGP := Lib.hid hp
   clear hp
   obtain ⟨c0, c1⟩ := HQ2.out.pt (.tail _ (.tail _ (.head _)))
   obtain ⟨d0, d1⟩ := HQ2.out.pt (.tail _ (.head _))
   go_wp2_with fail
   go_at_call 31
   refine (HCO.out _ HQ2.out.1).mono ?_
   rintro e' W4 ⟨rfl, hB⟩
   have HQ4 := HQ2.out.on hB
   clear hB c0 c1 d0 d1 HQ2
   have HQ2 := Lib.hid HQ4
   clear HQ4
   cases hco : cB (l.map PV.par) p
   ·have HNB := Lib.hid hco
    have HEP := Lib.hid (ed_put (fun x hx => (HPQ.out.ringP hx).1) hco)
    have HSN := Lib.hid (HPQ.out.snd.put (gd_iff.1 HGP.out))
    clear hco
    obtain ⟨c0, c1⟩ := HQ2.out.pt (.tail _ (.tail _ (.head _)))
    obtain ⟨d0, d1⟩ := HQ2.out.pt (.tail _ (.head _))
    go_upto_region 8 with (go_at_call 36; go_must (refine (HIN.out HPQ.out (gd_iff.1 HGP.out) _ HQ2.out.1).mono ?_; rintro e' W5 ⟨hB, A1, cA, l', Ap1, cp1, rfl, hm, h1, h2, h3⟩; have hog := Og.mkNew (HQ2.out.on hB) (h1.base HQ2.out.1) (RowI.base h2 HQ2.out.1) (OwnRs.base h3 HQ2.out.1); have HM := Lib.hid hm; clear hB hm h1 h2 h3))
    clear c0 c1 d0 d1 HQ2
    generalize (World.alloc _ _) = W6 at hog ⊢
    generalize (World.heap _).size = g6 at hog ⊢
    have HOG := Lib.hid hog
    have hl' : l'.length ≤ 64 := by
     have h64 := HSN.out.2.2
     have := congrArg List.length HM.out
     rw [List.length_map] at this
     omega
    have hsm : ∀ x ∈ l', SndR 129 x.par.ring ∧ x.par.own.size ≤ maxLen := fun x hx => by
     have hmx : x.par ∈ (l.map PV.par).map (ptP p) := by rw [← HM.out]; exact List.mem_map_of_mem hx
     refine ⟨HSN.out.2.1 _ hmx, ?_⟩
     obtain ⟨y, hy, e⟩ := List.mem_map.1 hmx
     obtain ⟨z, hz, rfl⟩ := List.mem_map.1 hy
     rw [← e]
     exact HOW.out z hz
    have hol := HSN.out.1.2.2.1
    have hpl := hog.plan rfl (by omega) (fun x hx => by have := (hsm x hx).1.2.2.1; omega)
    have HC2 := Lib.hid (ref_corner (putC o p) A1 cA l' Ap1 cp1 p (by omega) W6 hpl.prs)
    rw [cB_of, HM.out, HEP.out] at HC2
    have HDN : Hid (∀ W, Below W6.heap.size W6 W → Calls Tryz.prog 32 #[.agg #[.slice A1 (putC o p).length cA, .slice Ap1 l'.length cp1]] W fun e w' => DoneAt W w' (putC o p) ((l.map PV.par).map (ptP p)) e) := fun W hb => by
     have hx := done_own (putC o p) A1 cA l' Ap1 cp1 (by omega) (by omega) (fun x hx => by have := (hsm x hx).1.2.2.1; omega) (fun x hx => (hsm x hx).2) W (hpl.on hb)
     have e1 : lsR (putC o p) = putC o p := lsR_snd HSN.out.1
     have e2 : (l'.map fun x => lsP x.par) = (l.map PV.par).map (ptP p) := by
      have e3 : (l'.map fun x => lsP x.par) = (l'.map PV.par).map lsP := by rw [List.map_map]; rfl
      rw [e3, HM.out]
      exact ls_snd HSN.out.2.1
     rw [e1, e2] at hx
     exact hx
    obtain ⟨c0, c1⟩ := hog.hold.pt (.head _)
    obtain ⟨d0, d1⟩ := hog.hold.pt (.tail _ (.tail _ (.head _)))
    clear hog hl' hsm hol hpl
    go_wp2_with fail
    go_at_call 31
    refine HC2.out.mono ?_
    rintro e' W7 ⟨rfl, hB⟩
    have hog7 := HOG.out.on hB
    have HB7 := Lib.hid hB
    have HQ7 := Lib.hid hog7.hold.tail
    have HOG7 := Lib.hid hog7
    clear hB c0 c1 d0 d1 hog7 HC2
    cases hed : edB (l.map PV.par) p
    ·have HE := Lib.hid (mk_side HCB.out HGP.out HNB.out hed)
     clear hed
     have HQ2 := Lib.hid HQ7.out
     clear HQ7
     obtain ⟨y0, y1⟩ := HQ2.out.pt (.head _)
     obtain ⟨z0, z1⟩ := HQ2.out.fz (.head _)
     go_wp2
     have HE2 := HQ2.out.set2 (.slice none 0 0) (.slice none 0 0)
     obtain ⟨n0, n1⟩ := HE2.pt (.head _)
     refine bodyPost_ret (v := .tuple #[.agg #[.slice none 0 0, .slice none 0 0], .int .i64 7]) ?_ rfl ⟨HE2.1, .inl ⟨by rw [HE.out]; decide, by rw [HE.out]⟩⟩
     simp [results, Tryz.results15, go_sem, n0, n1]
    ·have HED := Lib.hid hed
     clear hed
     obtain ⟨c0, c1⟩ := HOG7.out.hold.pt (.head _)
     go_wp2_with fail
     go_at_call 32
     refine (HDN.out _ HB7.out).mono ?_
     rintro e' W8 ⟨hB, hd⟩
     have HQ8 := HQ7.out.on hB
     have hB0 := HQ7.out.1
     clear c0 c1 HDN
     rcases hd with ⟨hc, rfl⟩ | ⟨hc, A2, c2, l2, Ap2, cp2, rfl, hm, h1, h2, h3⟩
     ·have HE := Lib.hid (mk_cross HCB.out HGP.out HNB.out HED.out hc)
      clear hc hB hB0
      have HQ2 := Lib.hid HQ8
      clear HQ8
      obtain ⟨y0, y1⟩ := HQ2.out.pt (.head _)
      obtain ⟨z0, z1⟩ := HQ2.out.fz (.head _)
      go_wp2
      have HE2 := HQ2.out.set2 (.slice none 0 0) (.slice none 0 0)
      obtain ⟨n0, n1⟩ := HE2.pt (.head _)
      refine bodyPost_ret (v := .tuple #[.agg #[.slice none 0 0, .slice none 0 0], .int .i64 8]) ?_ rfl ⟨HE2.1, .inl ⟨by rw [HE.out]; decide, by rw [HE.out]⟩⟩
      simp [results, Tryz.results15, go_sem, n0, n1]
     ·have HE := Lib.hid (mk_ok HCB.out HGP.out HNB.out HED.out hc)
      have hog := Og.mkSet HQ8 (h1.base hB0) (RowI.base h2 hB0) (OwnRs.base h3 hB0)
      have HOH := Lib.hid hog
      have HM2 := Lib.hid hm
      obtain ⟨y0, y1⟩ := HQ8.pt (.head _)
      obtain ⟨z0, z1⟩ := HQ8.fz (.head _)
      clear hc hB hB0 hog hm h1 h2 h3 HQ8
      go_wp2
      obtain ⟨n0, n1⟩ := HOH.out.hold.pt (.head _)
      refine bodyPost_ret (v := .tuple #[.agg #[.slice A2 (putC o p).length c2, .slice Ap2 l2.length cp2], .int .i64 0]) ?_ rfl ⟨HOH.out.hold.1, .inr ⟨HE.out, A2, c2, Ap2, cp2, l2, rfl, HM2.out, HOH.out.out, HOH.out.row, HOH.out.rs⟩⟩
      simp [results, Tryz.results15, go_sem, n0, n1]
   ·have HE := Lib.hid (mk_there HCB.out HGP.out hco)
    clear hco
    obtain ⟨y0, y1⟩ := HQ2.out.pt (.head _)
    obtain ⟨z0, z1⟩ := HQ2.out.fz (.head _)
    go_wp2
    have HE2 := HQ2.out.set2 (.slice none 0 0) (.slice none 0 0)
    obtain ⟨n0, n1⟩ := HE2.pt (.head _)
    refine bodyPost_ret (v := .tuple #[.agg #[.slice none 0 0, .slice none 0 0], .int .i64 6]) ?_ rfl ⟨HE2.1, .inl ⟨by rw [HE.out]; decide, by rw [HE.out]⟩⟩
    simp [results, Tryz.results15, go_sem, n0, n1]
end Go.Proofs.YtcibaophoioeeaaGreat

namespace Go.Proofs.YtcibaophoioeeaaGreat
open Go.RowKit
set_option maxRecDepth 100000 in
set_option maxHeartbeats 1000000 in
theorem few8_any (o : List (Int × Int)) (Ao : Option Addr) (co : Nat) (l : List PV) (Ap : Option Addr) (cp : Nat) (ho : o.length ≤ 8796093022208) (w : World) (hr : Prs w Ap l) :
  Calls Tryz.prog 9 #[.agg #[.slice Ao o.length co, .slice Ap l.length cp]] w fun e w' => FewAt w o l e w' := by
 have HR := Lib.hid (fun W (h : Below w.heap.size w W) => hr.on h)
 have HQ := (Hold.refl w).new #[.slice Ao o.length co, .slice Ap l.length cp] 26
 have HO := Lib.hid ho
 clear hr ho
 go_enter Tryz.func9, Tryz.ntmps9
 go_upto_region 1 with (fail)
 generalize (World.alloc _ _) = W1 at HQ ⊢
 obtain ⟨g0, hg0⟩ : ∃ g, w.heap.size = g := ⟨_, rfl⟩
 rw [hg0] at HQ ⊢
 have HG0 := Lib.hid hg0
 clear hg0
 obtain ⟨c0, c1⟩ := HQ.pt (.head _)
 go_wp2_with fail
 go_loopg [3, 4] l.length (fun g n i wr => ∃ k : Nat, k ≤ l.length ∧ g = l.length - k ∧ n = .int .i64 (cornN o l k) ∧ i = .int .i64 k ∧ cornN o l k ≤ 17592186044416 ∧ k ≤ 81 ∧ Hold w [(g0, #[.slice Ao o.length co, .slice Ap l.length cp], 26)] wr)
 case atStart => exact ⟨0, Nat.zero_le _, rfl, rfl, rfl, by have := HO.out; show o.length ≤ _; omega, by decide, HQ⟩
 case round =>
  clear HQ c0 c1
  obtain ⟨k, hk, hgk, rfl, rfl, hcl, hk81, HB⟩ := hrel
  have HGK := Lib.hid hgk
  clear hgk
  obtain ⟨c0, c1⟩ := HB.pt (.head _)
  have HCL := Lib.hid hcl
  have HB9 := Lib.hid HB
  have hcm := fun (m : Nat) (h : k ≤ m) => cornN_mono (o := o) (l := l) h
  have hc0 : o.length ≤ cornN o l k := cornN_mono (o := o) (l := l) (Nat.zero_le k)
  have HCM := Lib.hid (And.intro hc0 (hcm l.length hk))
  by_cases hlt : k < l.length
  ·have b0 : (0 : Int) ≤ (k : Int) := by omega
   have b1 : (k : Int) < (l.length : Int) := by omega
   have hx : l[k]? = some l[k] := List.getElem?_eq_getElem hlt
   have HS := Lib.hid (cornN_succ (o := o) hx)
   by_cases h81 : k < 81
   ·have b2 : (k : Int) < 81 := by omega
    by_cases h400 : cornN o l k ≤ 300
    ·have b3 : (cornN o l k : Int) ≤ 300 := by omega
     have hw := HR.out _ HB.1
     obtain ⟨ad, rfl, -, d0, d1, d2⟩ := hw.at hlt
     have hsz := (hw.2 l[k] (List.getElem_mem hlt)).2.2
     have w1 := wrap_in (n := (cornN o l k : Int) + (l[k].par.ring.length : Int)) (by omega) (by omega)
     clear hw hcm hc0 hx
     obtain ⟨cl, hcl'⟩ : ∃ n, cornN o l k = n := ⟨_, rfl⟩
     rw [hcl'] at hcl b3 w1 HS h400 ⊢
     clear hcl' hsz
     have HSZ := Lib.hid (hr_len HR.out (Below.refl _ w) hlt)
     have H4 := Lib.hid h400
     generalize l[k].par.ring = ps at *
     clear hcl h400 h81 HB
     go_wp2_with fail
     go_roundg (l.length - (k + 1))
     case measure => have := HGK.out; omega
     case rel => exact ⟨k + 1, by omega, rfl, by rw [HS.out]; simp, by go_num, by have := HS.out; have := H4.out; have := HSZ.out; omega, by omega, HB9.out⟩
    ·have b3 : ¬ (cornN o l k : Int) ≤ 300 := by omega
     clear hcm hc0 hx HB
     obtain ⟨cl, hcl'⟩ : ∃ n, cornN o l k = n := ⟨_, rfl⟩
     rw [hcl'] at hcl b3 h400 ⊢
     clear hcl h400 h81 hcl'
     go_wp2
     go_ret
     exact ⟨false, rfl, fun h => (by cases h), HB9.out.1⟩
   ·have b2 : ¬ (k : Int) < 81 := by omega
    have HL : Hid (¬ l.length ≤ 80) := by unfold Hid; omega
    have b4 : ¬ (l.length : Int) ≤ 80 := by omega
    clear hcm hc0 hx HB
    obtain ⟨cl, hcl'⟩ : ∃ n, cornN o l k = n := ⟨_, rfl⟩
    rw [hcl'] at hcl ⊢
    clear hcl h81 hcl'
    by_cases h400 : cl ≤ 300
    ·have b3 : (cl : Int) ≤ 300 := by omega
     clear h400
     go_wp2
     go_ret
     exact ⟨false, rfl, fun h => (by cases h), HB9.out.1⟩
    ·have b3 : ¬ (cl : Int) ≤ 300 := by omega
     clear h400
     go_wp2
     go_ret
     exact ⟨false, rfl, fun h => (by cases h), HB9.out.1⟩
  ·obtain rfl : k = l.length := by omega
   clear hcm hc0 HB
   obtain ⟨cl, hcl'⟩ : ∃ n, cornN o l l.length = n := ⟨_, rfl⟩
   have HCC := Lib.hid hcl'
   rw [hcl'] at hcl ⊢
   clear hcl hcl'
   by_cases h400 : cl ≤ 300
   ·have b3 : (cl : Int) ≤ 300 := by omega
    have H4 := Lib.hid h400
    clear h400
    by_cases h80 : l.length ≤ 80
    ·have b4 : (l.length : Int) ≤ 80 := by omega
     have H8 := Lib.hid h80
     clear h80
     go_wp2
     go_ret
     exact ⟨true, rfl, fun _ => ⟨by have := HCM.out.1; have := HCC.out; have := H4.out; omega, by rw [HCC.out]; exact H4.out, H8.out⟩, HB9.out.1⟩
    ·have b4 : ¬ (l.length : Int) ≤ 80 := by omega
     clear h80
     go_wp2
     go_ret
     exact ⟨false, rfl, fun h => (by cases h), HB9.out.1⟩
   ·have b3 : ¬ (cl : Int) ≤ 300 := by omega
    clear h400
    go_wp2
    go_ret
    exact ⟨false, rfl, fun h => (by cases h), HB9.out.1⟩


def bR : List (Int × Int) := [(0, 0), (2, 0), (4, 0), (4, 4), (0, 4)]
def bP : List Par := [⟨1, bR, noOwn⟩]
theorem bP_plan : PlanQ bR bP := planT_plan (by decide +kernel) (fun x hx => by rw [List.mem_singleton.1 hx]; exact noOwn_ok)
theorem bR_eq : putC gvR (2, 0) = bR := by
 rw [putC_at (k := 0) gv_sound (by decide) ⟨onB_iff.1 (by decide +kernel), by decide +kernel, by decide +kernel⟩]
 decide +kernel
theorem bE_eq : mkE gvR gP (2, 0) = 0 := by
 refine mk_ok ((chkQ_iff gvR gP).2 gP_plan) (by decide +kernel) ?_ (by decide +kernel) ?_
 ·rw [← Bool.not_eq_true, cB_iff]
  rintro ⟨x, hx, h⟩
  unfold gP at hx
  rw [List.mem_singleton.1 hx] at h
  revert h
  decide +kernel
 ·have e : gP.map (ptP (2, 0)) = bP := by
   show [(⟨1, putC gvR (2, 0), noOwn⟩ : Par)] = _
   rw [bR_eq]
   rfl
  rw [bR_eq, e]
  exact (chkQ_iff bR bP).2 bP_plan
set_option maxRecDepth 100000 in
set_option maxHeartbeats 2000000 in
theorem bend_answers (w : World) :
  Calls Tryz.prog 8 #[] w fun e w' => e = .returned (.bool true) ∧ Below w.heap.size w w' := by
 have HQ := ((Hold.refl w).new (flatP gvR).toArray 28).new' #[.int .i64 1, .slice (some ⟨w.heap.size, 0, none⟩) 4 4, .string noOwn] 45 (n := w.heap.size + 1) (by simp)
 have hp1 := pts_of (ps := gvR) (HQ.2.1 _ (.tail _ (.head _))).1 (HQ.lt (.tail _ (.head _)))
 have hpl : PlanAt _ gvR (some ⟨w.heap.size, 0, none⟩) 4 [⟨⟨1, gvR, noOwn⟩, some ⟨w.heap.size, 0, none⟩, 4⟩] (some ⟨w.heap.size + 1, 0, none⟩) 1 := ⟨⟨items_one (HQ.2.1 _ (.head _)).1 rfl (HQ.lt (.head _)), fun x hx => by
  rw [List.mem_singleton.1 hx]
  exact ⟨hp1, (fun e => by cases e), (show gvR.length * 16 ≤ 140737488355328 by decide)⟩⟩, hp1, (fun e => by cases e), by decide, by decide, fun x hx => by
  rw [List.mem_singleton.1 hx]
  show gvR.length ≤ 4
  decide⟩
 have HSP := Lib.hid (Mark_any gvR (some ⟨w.heap.size, 0, none⟩) 4 [⟨⟨1, gvR, noOwn⟩, some ⟨w.heap.size, 0, none⟩, 4⟩] (some ⟨w.heap.size + 1, 0, none⟩) 1 (2, 0) (show 1 ≤ 1000000 by decide) (by decide) (fun x hx => by
  rw [List.mem_singleton.1 hx]
  show noOwn.size ≤ maxLen
  decide) _ hpl)
 have HQ1 := Lib.hid HQ
 clear HQ hp1 hpl
 go_enter Tryz.func8, Tryz.ntmps8
 go_wp2_with fail
 go_at_call 14
 refine HSP.out.mono ?_
 clear HSP
 rintro e' W4 ⟨hB4, ⟨hne, -⟩ | ⟨-, D1, d1, Dp, dp, lq, rfl, -⟩⟩
 ·exact absurd bE_eq hne
 ·have hq4 := HQ1.out.on hB4
  have hlen : (putC gvR (2, 0)).length = 5 := by rw [bR_eq]; rfl
  rw [hlen]
  have HQ4 := Lib.hid (hq4.new #[.slice D1 5 d1, .slice Dp lq.length dp] 26)
  obtain ⟨c0, c1⟩ := HQ4.out.pt (.head _)
  clear hB4 hq4 hlen
  go_wp2
  go_ret
  exact ⟨rfl, HQ4.out.1⟩

noncomputable def mkO (o : List (Int × Int)) (ps : List Par) (p : Int × Int) : List (Int × Int) := if mkE o ps p = 0 then putC o p else []
noncomputable def mkP (o : List (Int × Int)) (ps : List Par) (p : Int × Int) : List Par := if mkE o ps p = 0 then ps.map (ptP p) else []
theorem mk_sound {o : List (Int × Int)} {ps : List Par} {p : Int × Int} (h : mkE o ps p = 0) : PlanQ (putC o p) (ps.map (ptP p)) := by
 unfold mkE at h
 split at h
 ·cases h
 ·split at h
  ·cases h
  ·split at h
   ·cases h
   ·split at h
    ·cases h
    ·split at h
     ·cases h
     ·rename_i h5
      exact (chkQ_iff _ _).1 ((Bool.not_eq_false _).mp h5)
theorem mk_small (o : List (Int × Int)) (ps : List Par) (p : Int × Int) : (mkO o ps p).length ≤ 128 ∧ (mkP o ps p).length ≤ 64 := by
 unfold mkO mkP
 by_cases h : mkE o ps p = 0
 ·rw [if_pos h, if_pos h]
  exact ⟨(mk_sound h).outP.2.2, (mk_sound h).fine.2.2.2.1⟩
 ·rw [if_neg h, if_neg h]
  exact ⟨Nat.zero_le _, Nat.zero_le _⟩
theorem MarkAt.plan {w w' : World} {o : List (Int × Int)} {ps : List Par} {p : Int × Int} {e : Ending} (h : MarkAt w w' o ps p e) : Below w.heap.size w w' ∧ ∃ A1 c1 l1 Ap1 cp1, e = .returned (.tuple #[.agg #[.slice A1 (mkO o ps p).length c1, .slice Ap1 l1.length cp1], .int .i64 (mkE o ps p)]) ∧ l1.map PV.par = mkP o ps p ∧ PlanAt w' (mkO o ps p) A1 c1 l1 Ap1 cp1 := by
 obtain ⟨hB, ⟨hne, rfl⟩ | ⟨hz, A1, c1, Ap1, cp1, l1, rfl, hm, h1, h2, h3⟩⟩ := h
 ·have e1 : mkO o ps p = [] := if_neg hne
  have e2 : mkP o ps p = [] := if_neg hne
  rw [e1, e2]
  exact ⟨hB, none, 0, [], none, 0, rfl, rfl, ⟨⟨Items.nil _ _ _ _, fun x hx => nomatch hx⟩, fun hp => absurd hp (by simp), fun _ => rfl, by simp, by simp, fun x hx => nomatch hx⟩⟩
 ·have e1 : mkO o ps p = putC o p := if_pos hz
  have e2 : mkP o ps p = ps.map (ptP p) := if_pos hz
  have hP := mk_sound hz
  rw [e1, e2, hz]
  refine ⟨hB, A1, c1, l1, Ap1, cp1, rfl, hm, planAt_of h1 h2 h3 (by have := hP.outP.2.2; omega) (fun x hx => ?_)⟩
  have := (hP.ringP (x := x.par) (by rw [← hm]; exact List.mem_map_of_mem hx)).2.2
  omega
end Go.Proofs.YtcibaophoioeeaaGreat

namespace Go.Proofs.YtcibaophoioeeaaGreat
open Go.RowKit
def MkAns (w w' : World) (on : List (Int × Int)) (qs : List Par) (er : Int) (e : Ending) : Prop := Below w.heap.size w w' ∧ ∃ A2 c2 l2 Ap2 cp2, e = .returned (.tuple #[.agg #[.slice A2 on.length c2, .slice Ap2 l2.length cp2], .int .i64 er]) ∧ l2.map PV.par = qs ∧ Row w (.slice A2 on.length c2) on w' ∧ RowI w 45 3 encV (.slice Ap2 l2.length cp2) l2 w' ∧ OwnRs w l2 w'
theorem MarkAt.ans {w w' : World} {o : List (Int × Int)} {ps : List Par} {p : Int × Int} {e : Ending} (h : MarkAt w w' o ps p e) : MkAns w w' (mkO o ps p) (mkP o ps p) (mkE o ps p) e := by
 obtain ⟨hB, ⟨hne, rfl⟩ | ⟨hz, A1, c1, Ap1, cp1, l1, rfl, hm, h1, h2, h3⟩⟩ := h
 ·have e1 : mkO o ps p = [] := if_neg hne
  have e2 : mkP o ps p = [] := if_neg hne
  rw [e1, e2]
  exact ⟨hB, none, 0, [], none, 0, rfl, rfl, ⟨hB, World.ownsRow_nil _ _ _ _⟩, RowI.nil hB, fun x hx => nomatch hx⟩
 ·have e1 : mkO o ps p = putC o p := if_pos hz
  have e2 : mkP o ps p = ps.map (ptP p) := if_pos hz
  rw [e1, e2, hz]
  exact ⟨hB, A1, c1, l1, Ap1, cp1, rfl, hm, h1, h2, h3⟩
theorem mk_rings {o : List (Int × Int)} {ps : List Par} {p : Int × Int} {l2 : List PV} (hm : l2.map PV.par = mkP o ps p) : ∀ x ∈ l2, x.par.ring.length ≤ 1000 := fun x hx => by
 have hx2 : x.par ∈ mkP o ps p := by rw [← hm]; exact List.mem_map_of_mem hx
 unfold mkP at hx2
 split at hx2
 ·rename_i h
  have := ((mk_sound h).ringP hx2).2.2
  omega
 ·cases hx2
set_option maxRecDepth 100000 in
set_option maxHeartbeats 20000000 in
theorem marks_walk (o : List (Int × Int)) (Ao : Option Addr) (co : Nat) (l : List PV) (Ap : Option Addr) (cp : Nat) (p : Int × Int) (hown : ∀ x ∈ l, x.par.own.size ≤ maxLen) (w : World) (h : PlanAt w o Ao co l Ap cp) :
  Calls Tryz.prog 4 #[.agg #[.slice Ao o.length co, .slice Ap l.length cp], .agg #[.int .i64 p.1, .int .i64 p.2]] w fun e w' => e = .returned (.bool true) ∧ Below w.heap.size w w' := by
 have HAN := Lib.hid (fun W => bend_answers W)
 have HFW := Lib.hid (fun K W (hh : Hold w K W) => few8_any o Ao co l Ap cp (by have := h.room; omega) W (h.prs.on hh.1))
 have HOWX := Lib.hid (fun (hl : l.length ≤ 80) W (hb : Below w.heap.size w W) => Own_own o Ao co l Ap cp (by omega) W (h.on hb))
 have HMKX : Hid (l.length ≤ 80 → ∀ (A1 : Option Addr) (c1 : Nat) (l' : List PV) (Ap1 : Option Addr) (cp1 : Nat) (W : World), l'.map PV.par = l.map PV.par → PlanAt W o A1 c1 l' Ap1 cp1 → Calls Tryz.prog 14 #[.agg #[.slice A1 o.length c1, .slice Ap1 l.length cp1], .agg #[.int .i64 p.1, .int .i64 p.2]] W fun e w' => MkAns W w' (mkO o (l.map PV.par) p) (mkP o (l.map PV.par) p) (mkE o (l.map PV.par) p) e) := fun hl A1 c1 l' Ap1 cp1 W hm hp => by
  have hlen : l'.length = l.length := par_len hm
  have hx := Mark_any o A1 c1 l' Ap1 cp1 p (by omega) (by have := h.room; omega) (own_par hm hown) W hp
  rw [hlen, hm] at hx
  exact hx.mono fun e w' hh => hh.ans
 have HRMX := Lib.hid (fun (hl : l.length ≤ 80) (ho : o.length ≤ 300) W (hb : Below w.heap.size w W) => (ref_mark o Ao co l Ap cp p (by omega) (by omega) hown W (h.on hb)).mono fun e w' hh => hh.ans)
 have HSM := Lib.hid (mk_small o (l.map PV.par) p)
 have HRG := Lib.hid (fun (l2 : List PV) (hm : l2.map PV.par = mkP o (l.map PV.par) p) => mk_rings hm)
 have HQ := ((Hold.refl w).new #[.slice Ao o.length co, .slice Ap l.length cp] 26).new' #[.int .i64 p.1, .int .i64 p.2] 28 (n := w.heap.size + 1) (by simp)
 clear h hown
 generalize mkO o (l.map PV.par) p = on at *
 generalize mkP o (l.map PV.par) p = qs at *
 generalize mkE o (l.map PV.par) p = er at *
 go_enter Tryz.func4, Tryz.ntmps4
 go_upto_region 1 with (fail)
 generalize (World.alloc _ _) = W1 at HQ ⊢
 generalize w.heap.size + 1 = g3 at HQ ⊢
 obtain ⟨g2, hg2⟩ : ∃ g, w.heap.size = g := ⟨_, rfl⟩
 rw [hg2] at HQ ⊢
 have HG2 := Lib.hid hg2
 clear hg2
 have HQ1 := Lib.hid HQ
 clear HQ
 go_wp2_with fail
 go_at_call 8
 refine (HAN.out _).mono ?_
 rintro e' W2 ⟨rfl, hB⟩
 have hq2 := HQ1.out.on hB
 obtain ⟨c0, c1⟩ := hq2.pt (.tail _ (.head _))
 have HQ2 := Lib.hid hq2
 clear hB hq2
 go_wp2_with fail
 go_at_call 9
 refine (HFW.out _ _ HQ2.out).mono ?_
 rintro e' W3 ⟨b, rfl, hb80, hB⟩
 have HQ3 := Lib.hid (HQ2.out.on hB)
 have HB80 := Lib.hid hb80
 clear c0 c1 hB hb80 HFW
 cases b
 ·go_wp2_with fail
  go_at_call 8
  refine (HAN.out _).mono ?_
  rintro e' W8 ⟨rfl, hB⟩
  have HQ8 := Lib.hid (HQ3.out.on hB)
  clear hB
  go_wp2
  go_ret
  exact ⟨rfl, HG2.out ▸ HQ8.out.1⟩
 ·have hbb := HB80.out (by first | trivial | rfl)
  have HOW := Lib.hid (HOWX.out hbb.2.2)
  have HMK := Lib.hid (HMKX.out hbb.2.2)
  have HRM := Lib.hid (HRMX.out hbb.2.2 hbb.1)
  clear HB80 hbb HOWX HMKX HRMX HAN
  go_upto_region 3 with (fail)
  go_cut [5, 6] (fun s5 s6 wx => ∃ g5 A2 c2 l2 Ap2 cp2, s5 = .pointer (some ⟨g5, 0, none⟩) ∧ s6 = .int .i64 er ∧ l2.map PV.par = qs ∧ Og w A2 on c2 Ap2 l2.length l2 cp2 g5 [(g3, #[.int .i64 p.1, .int .i64 p.2], 28), (g2, #[.slice Ao o.length co, .slice Ap l.length cp], 26)] wx)
  case first =>
   as_aux_lemma =>
    have h1 := HQ3.out.drew
    clear HRM HSM HRG
    refine wp_region_held_drew (S := fun W => W.cell? ⟨g2, 0, none⟩ = some (.slice Ao o.length co) ∧ W.cell? ⟨g2, 1, none⟩ = some (.slice Ap l.length cp) ∧ W.cell? ⟨g3, 0, none⟩ = some (.int .i64 p.1) ∧ W.cell? ⟨g3, 1, none⟩ = some (.int .i64 p.2)) (by kernel_rfl) ?_ (fun hHeld => ?_)
    ·(try dsimp only)
     exact Hold.two4 h1
    refine tZ 0 ?_; refine tZ 2 ?_
    generalize (World.drew _) = Wd at h1 hHeld ⊢
    refine wpAnyH_ready (rs := [1, 7]) (by decide +kernel) (by simp) ?_
    refine AllReadyH.cons rfl (fun K hK => ?_) (AllReadyH.cons rfl (fun K hK => ?_) AllReadyH.nil)
    ·(try simp only [jA, jB, jC])
     go_simp
     go_at_call 11
     refine (HOW.out _ h1.1).mono ?_
     rintro e' Wa ⟨hBa, A1, c1, l', Ap1, cp1, rfl, hm, hpa, -⟩
     have h2 := h1.on hBa
     refine hK.out _ _ ?_ (fun hHeld => ?_)
     focus ((try dsimp only); exact Hold.two4 h2; done)
     clear hK K
     (try simp only [Act.put, jA, jB, jC, jD, jE, jF])
     refine wpAnyH_ready (rs := [3, 7]) (by decide +kernel) (by simp) ?_
     refine AllReadyH.cons rfl (fun K hK => ?_) (AllReadyH.cons rfl (fun K hK => ?_) AllReadyH.nil)
     ·(try simp only [jA, jB, jC])
      go_simp
      go_at_call 14
      refine (HMK.out A1 c1 l' Ap1 cp1 _ hm hpa).mono ?_
      rintro e' Wb ⟨hBb, A2, c2, l2, Ap2, cp2, rfl, hm2, r1, r2, r3⟩
      have h3 := h2.on hBb
      have r1 := r1.base h2.1
      have r2 := RowI.base r2 h2.1
      have r3 := OwnRs.base r3 h2.1
      refine hK.out _ _ ?_ (fun hHeld => ?_)
      focus ((try dsimp only); exact Hold.two4 h3; done)
      clear hK K
      (try simp only [Act.put, jA, jB, jC, jD, jE, jF])
      refine tZ 4 ?_; refine tZ 5 ?_; refine tZ 6 ?_
      refine wpAnyH_ready (rs := [7]) (by decide +kernel) (by simp) ?_
      refine AllReadyH.cons rfl (fun K hK => ?_) AllReadyH.nil
      have h4 := h3.new #[.slice none 0 0, .slice none 0 0] 26
      have hbah4 := (Below.refl Wb.heap.size Wb).alloc (Nat.le_refl _) (Obj.cells #[.slice none 0 0, .slice none 0 0] 26 (0, 0))
      have r1 := r1.on hbah4
      have r2 := r2.on hbah4
      have r3 := r3.on hbah4
      (try simp only [jA, jB, jC])
      go_simp
      refine hK.out _ _ ?_ (fun hHeld => ?_)
      focus ((try dsimp only); exact Hold.two4 h4.tail; done)
      clear hK K
      (try simp only [Act.put, jA, jB, jC, jD, jE, jF])
      clear hbah4
      generalize (World.alloc _ _) = Wc at h4 r1 r2 r3 hHeld ⊢
      generalize Wb.heap.size = g5 at h4 ⊢
      obtain ⟨y0, y1⟩ := h4.pt (.head _)
      obtain ⟨z0, z1⟩ := h4.fz (.head _)
      have hog := Og.mkSet h4 r1 r2 r3
      refine wpAnyH_ready (rs := [8]) (by decide +kernel) (by simp) ?_
      refine AllReadyH.cons rfl (fun K hK => ?_) AllReadyH.nil
      (try simp only [jA, jB, jC])
      go_simp
      refine hK.out _ _ ?_ (fun hHeld => ?_)
      focus ((try dsimp only); exact Hold.two4 hog.hold.tail; done)
      clear hK K
      (try simp only [Act.put, jA, jB, jC, jD, jE, jF])
      refine tZ 9 ?_
      refine wpAnyH_done (by decide +kernel) ?_ _
      go_wp2_with fail
      go_meet
      exact ⟨_, A2, c2, l2, Ap2, cp2, rfl, rfl, hm2, hog⟩
     ·have h3 := h2.new #[.slice none 0 0, .slice none 0 0] 26
      have hbah3 := (Below.refl Wa.heap.size Wa).alloc (Nat.le_refl _) (Obj.cells #[.slice none 0 0, .slice none 0 0] 26 (0, 0))
      have hpa := hpa.on hbah3
      (try simp only [jA, jB, jC])
      go_simp
      refine hK.out _ _ ?_ (fun hHeld => ?_)
      focus ((try dsimp only); exact Hold.two4 h3.tail; done)
      clear hK K
      (try simp only [Act.put, jA, jB, jC, jD, jE, jF])
      clear hbah3
      generalize (World.alloc _ _) = Wb at h3 hpa hHeld ⊢
      generalize Wa.heap.size = g5 at h3 ⊢
      refine wpAnyH_ready (rs := [3]) (by decide +kernel) (by simp) ?_
      refine AllReadyH.cons rfl (fun K hK => ?_) AllReadyH.nil
      (try simp only [jA, jB, jC])
      go_simp
      go_at_call 14
      refine (HMK.out A1 c1 l' Ap1 cp1 _ hm hpa).mono ?_
      rintro e' Wc ⟨hBb, A2, c2, l2, Ap2, cp2, rfl, hm2, r1, r2, r3⟩
      have h4 := h3.on hBb
      have r1 := r1.base h3.1
      have r2 := RowI.base r2 h3.1
      have r3 := OwnRs.base r3 h3.1
      refine hK.out _ _ ?_ (fun hHeld => ?_)
      focus ((try dsimp only); exact Hold.two4 h4.tail; done)
      clear hK K
      (try simp only [Act.put, jA, jB, jC, jD, jE, jF])
      refine tZ 4 ?_; refine tZ 5 ?_; refine tZ 6 ?_
      obtain ⟨y0, y1⟩ := h4.pt (.head _)
      obtain ⟨z0, z1⟩ := h4.fz (.head _)
      have hog := Og.mkSet h4 r1 r2 r3
      refine wpAnyH_ready (rs := [8]) (by decide +kernel) (by simp) ?_
      refine AllReadyH.cons rfl (fun K hK => ?_) AllReadyH.nil
      (try simp only [jA, jB, jC])
      go_simp
      refine hK.out _ _ ?_ (fun hHeld => ?_)
      focus ((try dsimp only); exact Hold.two4 hog.hold.tail; done)
      clear hK K
      (try simp only [Act.put, jA, jB, jC, jD, jE, jF])
      refine tZ 9 ?_
      refine wpAnyH_done (by decide +kernel) ?_ _
      go_wp2_with fail
      go_meet
      exact ⟨_, A2, c2, l2, Ap2, cp2, rfl, rfl, hm2, hog⟩
    ·have h2 := h1.new #[.slice none 0 0, .slice none 0 0] 26
     have hbah2 := (Below.refl Wd.heap.size Wd).alloc (Nat.le_refl _) (Obj.cells #[.slice none 0 0, .slice none 0 0] 26 (0, 0))
     (try simp only [jA, jB, jC])
     go_simp
     refine hK.out _ _ ?_ (fun hHeld => ?_)
     focus ((try dsimp only); exact Hold.two4 h2.tail; done)
     clear hK K
     (try simp only [Act.put, jA, jB, jC, jD, jE, jF])
     clear hbah2
     generalize (World.alloc _ _) = We at h2 hHeld ⊢
     generalize Wd.heap.size = g5 at h2 ⊢
     refine wpAnyH_ready (rs := [1]) (by decide +kernel) (by simp) ?_
     refine AllReadyH.cons rfl (fun K hK => ?_) AllReadyH.nil
     (try simp only [jA, jB, jC])
     go_simp
     go_at_call 11
     refine (HOW.out _ h2.1).mono ?_
     rintro e' Wf ⟨hBa, A1, c1, l', Ap1, cp1, rfl, hm, hpa, -⟩
     have h3 := h2.on hBa
     refine hK.out _ _ ?_ (fun hHeld => ?_)
     focus ((try dsimp only); exact Hold.two4 h3.tail; done)
     clear hK K
     (try simp only [Act.put, jA, jB, jC, jD, jE, jF])
     refine wpAnyH_ready (rs := [3]) (by decide +kernel) (by simp) ?_
     refine AllReadyH.cons rfl (fun K hK => ?_) AllReadyH.nil
     (try simp only [jA, jB, jC])
     go_simp
     go_at_call 14
     refine (HMK.out A1 c1 l' Ap1 cp1 _ hm hpa).mono ?_
     rintro e' Wg ⟨hBb, A2, c2, l2, Ap2, cp2, rfl, hm2, r1, r2, r3⟩
     have h4 := h3.on hBb
     have r1 := r1.base h3.1
     have r2 := RowI.base r2 h3.1
     have r3 := OwnRs.base r3 h3.1
     refine hK.out _ _ ?_ (fun hHeld => ?_)
     focus ((try dsimp only); exact Hold.two4 h4.tail; done)
     clear hK K
     (try simp only [Act.put, jA, jB, jC, jD, jE, jF])
     refine tZ 4 ?_; refine tZ 5 ?_; refine tZ 6 ?_
     obtain ⟨y0, y1⟩ := h4.pt (.head _)
     obtain ⟨z0, z1⟩ := h4.fz (.head _)
     have hog := Og.mkSet h4 r1 r2 r3
     refine wpAnyH_ready (rs := [8]) (by decide +kernel) (by simp) ?_
     refine AllReadyH.cons rfl (fun K hK => ?_) AllReadyH.nil
     (try simp only [jA, jB, jC])
     go_simp
     refine hK.out _ _ ?_ (fun hHeld => ?_)
     focus ((try dsimp only); exact Hold.two4 hog.hold.tail; done)
     clear hK K
     (try simp only [Act.put, jA, jB, jC, jD, jE, jF])
     refine tZ 9 ?_
     refine wpAnyH_done (by decide +kernel) ?_ _
     go_wp2_with fail
     go_meet
     exact ⟨_, A2, c2, l2, Ap2, cp2, rfl, rfl, hm2, hog⟩
  case rest =>
   clear HOW HMK
   obtain ⟨g5, A2, c2, l2, Ap2, cp2, rfl, rfl, hm2, hog⟩ := hcut
   have HOG := Lib.hid hog
   have HM2 := Lib.hid hm2
   obtain ⟨c0, c1⟩ := hog.hold.pt (.tail _ (.tail _ (.head _)))
   obtain ⟨d0, d1⟩ := hog.hold.pt (.tail _ (.head _))
   clear hog hm2
   go_upto_region 5 with (go_at_call 15; go_must (refine (HRM.out _ HOG.out.hold.1).mono ?_; rintro e' W5 ⟨hB5, A3, c3, l3, Ap3, cp3, rfl, hm3, r1, r2, r3⟩; have hog5 := HOG.out.on hB5; have hoh := Og.mkNew hog5.hold (r1.base HOG.out.hold.1) (RowI.base r2 HOG.out.hold.1) (OwnRs.base r3 HOG.out.hold.1); have hog6 := hog5.on ((Below.refl _ W5).alloc (Nat.le_refl _) (Obj.cells #[.slice A3 on.length c3, .slice Ap3 l3.length cp3] 26 (0, 0))); have HM3 := Lib.hid hm3; clear hB5 hog5 hm3 r1 r2 r3))
   clear c0 c1 d0 d1
   generalize (World.alloc _ _) = W6 at hoh hog6 ⊢
   generalize (World.heap _).size = g7 at hoh ⊢
   have hlen2 : l2.length ≤ 1000000 := by
    have h1 := congrArg List.length HM2.out
    rw [List.length_map] at h1
    have := HSM.out.2
    omega
   have hsm := HSM.out.1
   have hpl2 := hog6.plan rfl (by omega) (HRG.out l2 HM2.out)
   have hpl3 := hoh.plan rfl (by omega) (HRG.out l3 HM3.out)
   have hx := ref_samePlan on on A2 c2 l2 Ap2 cp2 A3 c3 l3 Ap3 cp3 (by unfold maxLen; omega) (by omega) _ hpl2.prs hpl3.prs hpl2.out hpl3.out
   rw [show decide (on = on ∧ l2.map PV.par = l3.map PV.par) = true from decide_eq_true ⟨rfl, HM2.out.trans HM3.out.symm⟩] at hx
   have HSA := Lib.hid hx
   obtain ⟨c0, c1⟩ := hoh.hold.pt (.head _)
   obtain ⟨d0, d1⟩ := hoh.hold.pt (.tail _ (.head _))
   have HB := Lib.hid hoh.hold.1
   have e0 : (er == er) = true := beq_self_eq_true _
   clear hlen2 hsm hpl2 hpl3 hx hoh hog6
   go_wp2_with fail
   go_at_call 13
   refine HSA.out.mono ?_
   rintro e' W8 ⟨rfl, hB⟩
   have HB8 := Lib.hid (HB.out.trans (hB.mono HB.out.size))
   clear hB c0 c1 d0 d1
   go_wp2
   go_ret
   exact ⟨rfl, HG2.out ▸ HB8.out⟩
end Go.Proofs.YtcibaophoioeeaaGreat
