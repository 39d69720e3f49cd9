/- The program's Mark: a corner more in all rings that have the edge. -/
import Derived.Test.YtfjfmieadedjoaaBendN
import Derived.Test.YtfjfmieadedjoaaCorn
import Derived.Test.YtfjfmieadedjoaaSplI
import Derived.Test.YtfjfmieadedjoaaRefSame
import Derived.Test.YtfjfmieadedjoaaRefLeast
namespace Go.Proofs.Ytfjfmieadedjoaa
open Go.RowKit

noncomputable def cB (ps : List Par) (p : Int × Int) : Bool := @decide (∃ x ∈ ps, p ∈ x.ring) (Classical.propDecidable _)
def edB (ps : List Par) (p : Int × Int) : Bool := ps.any fun x => onE x.ring p
theorem cB_iff {ps : List Par} {p : Int × Int} : cB ps p = true ↔ ∃ x ∈ ps, p ∈ x.ring := by unfold cB; exact @decide_eq_true_iff _ (Classical.propDecidable _)
theorem cB_of (l : List PV) (p : Int × Int) : cornB l p = cB (l.map PV.par) p := by
 rw [Bool.eq_iff_iff, cornB_iff, cB_iff]
 constructor
 ·rintro ⟨x, hx, h⟩; exact ⟨x.par, List.mem_map_of_mem hx, h⟩
 ·rintro ⟨y, hy, h⟩
  obtain ⟨x, hx, rfl⟩ := List.mem_map.1 hy
  exact ⟨x, hx, h⟩
theorem edB_of (l : List PV) (p : Int × Int) : (l.any fun x => onE x.par.ring p) = edB (l.map PV.par) p := by
 unfold edB
 rw [List.any_map]
 rfl
noncomputable def mkE (o : List (Int × Int)) (ps : List Par) (p : Int × Int) : Int :=
 if chkQ o ps = false then 2 else if gd p = false then 3 else if cB ps p = true then 6 else if edB ps p = false then 7 else if chkQ (putC o p) (ps.map (ptP p)) = false then 8 else 0
theorem mk_form {o : List (Int × Int)} {ps : List Par} {p : Int × Int} (h1 : chkQ o ps = false) : mkE o ps p = 2 := by unfold mkE; rw [if_pos h1]
theorem mk_range {o : List (Int × Int)} {ps : List Par} {p : Int × Int} (h1 : chkQ o ps = true) (h2 : gd p = false) : mkE o ps p = 3 := by unfold mkE; rw [if_neg (by rw [h1]; decide), if_pos h2]
theorem mk_there {o : List (Int × Int)} {ps : List Par} {p : Int × Int} (h1 : chkQ o ps = true) (h2 : gd p = true) (h3 : cB ps p = true) : mkE o ps p = 6 := by unfold mkE; rw [if_neg (by rw [h1]; decide), if_neg (by rw [h2]; decide), if_pos h3]
theorem mk_side {o : List (Int × Int)} {ps : List Par} {p : Int × Int} (h1 : chkQ o ps = true) (h2 : gd p = true) (h3 : cB ps p = false) (h4 : edB ps p = false) : mkE o ps p = 7 := by unfold mkE; rw [if_neg (by rw [h1]; decide), if_neg (by rw [h2]; decide), if_neg (by rw [h3]; decide), if_pos h4]
theorem mk_cross {o : List (Int × Int)} {ps : List Par} {p : Int × Int} (h1 : chkQ o ps = true) (h2 : gd p = true) (h3 : cB ps p = false) (h4 : edB ps p = true) (h5 : chkQ (putC o p) (ps.map (ptP p)) = false) : mkE o ps p = 8 := by unfold mkE; rw [if_neg (by rw [h1]; decide), if_neg (by rw [h2]; decide), if_neg (by rw [h3]; decide), if_neg (by rw [h4]; decide), if_pos h5]
theorem mk_ok {o : List (Int × Int)} {ps : List Par} {p : Int × Int} (h1 : chkQ o ps = true) (h2 : gd p = true) (h3 : cB ps p = false) (h4 : edB ps p = true) (h5 : chkQ (putC o p) (ps.map (ptP p)) = true) : mkE o ps p = 0 := by unfold mkE; rw [if_neg (by rw [h1]; decide), if_neg (by rw [h2]; decide), if_neg (by rw [h3]; decide), if_neg (by rw [h4]; decide), if_neg (by rw [h5]; decide)]
def MarkAt (w w' : World) (o : List (Int × Int)) (ps : List Par) (p : Int × Int) (e : Ending) : Prop :=
 Below w.heap.size w w' ∧ ((mkE o ps p ≠ 0 ∧ e = .returned (.tuple #[.agg #[.slice none 0 0, .slice none 0 0], .int .i64 (mkE o ps p)])) ∨
  (mkE o ps p = 0 ∧ ∃ A1 c1 Ap1 cp1 l', e = .returned (.tuple #[.agg #[.slice A1 (putC o p).length c1, .slice Ap1 l'.length cp1], .int .i64 0]) ∧ l'.map PV.par = ps.map (ptP p) ∧ Row w (.slice A1 (putC o p).length c1) (putC o p) w' ∧ RowI w 39 3 encV (.slice Ap1 l'.length cp1) l' w' ∧ OwnRs w l' w'))
theorem nm_sound {r : List (Int × Int)} (h : NormP (nmL r)) : chE r = 0 := by
 by_cases hc : chE r = 0
 ·exact hc
 ·have h3 := (norm_sound h).1
  unfold nmL at h3
  rw [if_neg hc] at h3
  simp at h3
theorem nm_le (r : List (Int × Int)) : (nmL r).length ≤ r.length := by
 by_cases h : chE r = 0
 ·rw [nmL_len h]; exact Nat.le_refl _
 ·unfold nmL
  rw [if_neg h]
  exact Nat.zero_le _
theorem nm_nrm {r : List (Int × Int)} (h : chE r = 0) (hn : Nrm r) : nmL r = r := by
 rw [nmL_eq h]
 exact lstR_nrm hn
theorem mark_same {o : List (Int × Int)} {ps : List Par} {p : Int × Int} (hP : PlanQ o ps) :
  chkQ (nmL (putC o p)) (ps.map fun x => (⟨x.id, nmL (putC x.ring p), x.own⟩ : Par)) = chkQ (putC o p) (ps.map (ptP p)) ∧ (chkQ (putC o p) (ps.map (ptP p)) = true → nmL (putC o p) = putC o p ∧ (ps.map fun x => (⟨x.id, nmL (putC x.ring p), x.own⟩ : Par)) = ps.map (ptP p)) := by
 by_cases hall : chE (putC o p) = 0 ∧ ∀ x ∈ ps, chE (putC x.ring p) = 0
 ·have e1 : nmL (putC o p) = putC o p := nm_nrm hall.1 (nrm_putC (normP_iff.1 hP.out).2 p)
  have e2 : (ps.map fun x => (⟨x.id, nmL (putC x.ring p), x.own⟩ : Par)) = ps.map (ptP p) := List.map_congr_left fun x hx => by
   unfold ptP
   rw [nm_nrm (hall.2 x hx) (nrm_putC (normP_iff.1 (hP.each x hx)).2 p)]
  rw [e1, e2]
  exact ⟨rfl, fun _ => ⟨rfl, rfl⟩⟩
 ·have f1 : chkQ (nmL (putC o p)) (ps.map fun x => (⟨x.id, nmL (putC x.ring p), x.own⟩ : Par)) = false := by
   cases hc : chkQ (nmL (putC o p)) (ps.map fun x => (⟨x.id, nmL (putC x.ring p), x.own⟩ : Par))
   ·rfl
   ·have hQ := (chkQ_iff _ _).1 hc
    exact absurd ⟨nm_sound hQ.out, fun x hx => nm_sound (hQ.each _ (List.mem_map_of_mem hx))⟩ hall
  have f2 : chkQ (putC o p) (ps.map (ptP p)) = false := by
   cases hc : chkQ (putC o p) (ps.map (ptP p))
   ·rfl
   ·have hQ := (chkQ_iff _ _).1 hc
    exact absurd ⟨(normP_iff.1 hQ.out).1, fun x hx => (normP_iff.1 (hQ.each _ (List.mem_map_of_mem hx))).1⟩ hall
  rw [f1, f2]
  exact ⟨rfl, fun h => by cases h⟩
theorem markC_at (ps : List (Int × Int)) (A : Option Addr) (cap : Nat) (p : Int × Int) (g : Nat) (hs : Sound ps) (hg : gdL ps = true) (hp : Gd p) (hnp : p ∉ ps) (hn : ps.length ≤ 1000) (hcap : ps.length ≤ cap) (w : World) (hr : Pts w w.heap.size A ps) (hc : w.heap[g]? = some (.cells #[.int .i64 p.1, .int .i64 p.2] 28 (0, 0))) :
  Calls Try.prog 19 #[.slice A ps.length cap, .pointer (some ⟨g, 0, none⟩)] w fun e w' => RingTo w w' (putC ps p) e := by
 obtain ⟨ad, rfl, -, -⟩ := hr (by have := hs.1; omega)
 exact markC_any ps ad cap p g hs hg hp hnp hn hcap w hr (blk_cell hc 0) (blk_cell hc 1) (blk_lt hc)
set_option maxRecDepth 100000 in
set_option maxHeartbeats 8000000 in
theorem Mark_any (o : List (Int × Int)) (Ao : Option Addr) (co : Nat) (l : List PV) (Ap : Option Addr) (cp : Nat) (p : Int × Int) (hl : l.length ≤ 1000000) (ho : o.length ≤ 8796093022208) (hown : ∀ x ∈ l, x.par.own.size ≤ maxLen) (w : World) (h : PlanAt w o Ao co l Ap cp) :
  Calls Try.prog 9 #[.agg #[.slice Ao o.length co, .slice Ap l.length cp], .agg #[.int .i64 p.1, .int .i64 p.2]] w fun e w' => MarkAt w w' o (l.map PV.par) p e := by
 have HCO := Lib.hid (fun W (hb : Below w.heap.size w W) => Corner_any o Ao co l Ap cp p hl ho hown W (h.on hb))
 have HPA := Lib.hid (fun W (hb : Below w.heap.size w W) => h.on hb)
 have HLL := Lib.hid hl
 have HOW := Lib.hid hown
 have HQ := (((Hold.refl w).new #[.slice Ao o.length co, .slice Ap l.length cp] 26).new' #[.int .i64 p.1, .int .i64 p.2] 28 (n := w.heap.size + 1) (by simp)).new' #[.slice none 0 0, .slice none 0 0] 26 (n := w.heap.size + 1 + 1) (by simp)
 clear h hl ho hown
 go_enter Try.func9, Try.ntmps9
 go_upto_region 1 with (fail)
 generalize (World.alloc _ _) = W1 at HQ ⊢
 generalize w.heap.size + 1 + 1 = g4 at HQ ⊢
 generalize w.heap.size + 1 = g3 at HQ ⊢
 obtain ⟨g2, hg2⟩ : ∃ g, w.heap.size = g := ⟨_, rfl⟩
 rw [hg2] at HQ ⊢
 have HQX := Lib.hid HQ
 have HG2 := Lib.hid hg2
 clear hg2
 obtain ⟨c0, c1⟩ := HQ.pt (.tail _ (.tail _ (.head _)))
 obtain ⟨d0, d1⟩ := HQ.pt (.tail _ (.head _))
 clear HQ
 go_wp2_with fail
 go_at_call 11
 refine (HCO.out _ HQX.out.1).mono ?_
 rintro e' W2 ⟨rfl, hB⟩
 have HQ2 := Lib.hid (HQX.out.on hB)
 clear hB c0 c1 d0 d1 HCO
 cases hcb : chkB o l
 ·rw [(cn_bad p hcb).1, (cn_bad p hcb).2]
  have HE := Lib.hid (mk_form (p := p) ((chkQ_of o l).symm.trans hcb))
  clear hcb
  obtain ⟨y0, y1⟩ := HQ2.out.pt (.head _)
  obtain ⟨z0, z1⟩ := HQ2.out.fz (.head _)
  go_wp2
  have HE2 := HQ2.out.set2 (.slice none 0 0) (.slice none 0 0)
  obtain ⟨n0, n1⟩ := HE2.pt (.head _)
  refine bodyPost_ret (v := .tuple #[.agg #[.slice none 0 0, .slice none 0 0], .int .i64 2]) ?_ rfl ⟨HE2.1, .inl ⟨by rw [HE.out]; decide, by rw [HE.out]⟩⟩
  simp [results, Try.results9, go_sem, n0, n1]
 ·have HCB := Lib.hid ((chkQ_of o l).symm.trans hcb)
  cases hp : gd p
  ·rw [(cn_far hcb hp).1, (cn_far hcb hp).2]
   have HE := Lib.hid (mk_range HCB.out hp)
   clear hcb hp
   obtain ⟨y0, y1⟩ := HQ2.out.pt (.head _)
   obtain ⟨z0, z1⟩ := HQ2.out.fz (.head _)
   go_wp2
   have HE2 := HQ2.out.set2 (.slice none 0 0) (.slice none 0 0)
   obtain ⟨n0, n1⟩ := HE2.pt (.head _)
   refine bodyPost_ret (v := .tuple #[.agg #[.slice none 0 0, .slice none 0 0], .int .i64 3]) ?_ rfl ⟨HE2.1, .inl ⟨by rw [HE.out]; decide, by rw [HE.out]⟩⟩
   simp [results, Try.results9, go_sem, n0, n1]
  ·rw [(cn_good hcb hp).1, (cn_good hcb hp).2]
   have HGP := Lib.hid hp
   have HCP : Hid (CheckP o l) := chkB_iff.1 hcb
   have HPQ : Hid (PlanQ o (l.map PV.par)) := chkB_plan.1 hcb
   clear hcb hp
   cases hco : cornB l p
   ·have HNC := Lib.hid hco
    have HNB := Lib.hid ((cB_of l p).symm.trans hco)
    have hring : ∀ x ∈ l, Sound x.par.ring ∧ gdL x.par.ring = true ∧ x.par.ring.length ≤ 128 := fun x hx => HPQ.out.ringP (List.mem_map_of_mem hx)
    have hno : ¬ (p ∈ o ∨ ∃ x ∈ l, p ∈ x.par.ring) := fun hh => by
     have := cornB_iff.2 ((corner_any HCP.out p).1 hh)
     rw [hco] at this
     cases this
    have HOE := Lib.hid (fun W (hb : Below w.heap.size w W) => onEdge_any o Ao co l Ap cp p HLL.out (gd_iff.1 HGP.out) (fun x hx => ⟨(hring x hx).2.1, by have := (hring x hx).2.2; omega⟩) W (HPA.out W hb).prs)
    rw [edB_of] at HOE
    have HRI := Lib.hid hring
    have HNO := Lib.hid hno
    clear hco hring hno
    obtain ⟨c0, c1⟩ := HQ2.out.pt (.tail _ (.tail _ (.head _)))
    obtain ⟨d0, d1⟩ := HQ2.out.pt (.tail _ (.head _))
    go_wp2_with fail
    go_at_call 18
    refine (HOE.out _ HQ2.out.1).mono ?_
    rintro e' W3 ⟨rfl, hB⟩
    have HQ3 := HQ2.out.on hB
    clear hB c0 c1 d0 d1 HOE HQ2
    have HQ2 := Lib.hid HQ3
    clear HQ3
    cases hed : edB (l.map PV.par) p
    ·have HE := Lib.hid (mk_side HCB.out HGP.out HNB.out hed)
     clear hed
     obtain ⟨y0, y1⟩ := HQ2.out.pt (.head _)
     obtain ⟨z0, z1⟩ := HQ2.out.fz (.head _)
     go_wp2
     have HE2 := HQ2.out.set2 (.slice none 0 0) (.slice none 0 0)
     obtain ⟨n0, n1⟩ := HE2.pt (.head _)
     refine bodyPost_ret (v := .tuple #[.agg #[.slice none 0 0, .slice none 0 0], .int .i64 7]) ?_ rfl ⟨HE2.1, .inl ⟨by rw [HE.out]; decide, by rw [HE.out]⟩⟩
     simp [results, Try.results9, go_sem, n0, n1]
    ·have HED := Lib.hid hed
     clear hed
     have hP2 := HPA.out _ HQ2.out.1
     have hcell := (HQ2.out.2.1 _ (.tail _ (.head _))).1
     have hgp := gd_iff.1 HGP.out
     have hoP := HPQ.out.outP
     have hlen : ∀ r : List (Int × Int), r.length ≤ 128 → (nmL (putC r p)).length ≤ 1000 ∧ (putC r p).length ≤ maxLen := fun r hr => by
      have a := (putC_len r p).2
      have b := nm_le (putC r p)
      exact ⟨by omega, by unfold maxLen; omega⟩
     have h64 := HPQ.out.fine.2.2.2.1
     rw [List.length_map] at h64
     have HAN := Lib.hid (anewM_any o Ao co l Ap cp (fun r => putC r p) (nmL (putC o p)) rfl g3 h64 (hlen o hoP.2.2) (fun x hx => ⟨(hlen _ (HRI.out x hx).2.2).1, HOW.out x hx, (hlen _ (HRI.out x hx).2.2).2⟩) _ hP2
      (fun W hb => markC_at o Ao co p g3 hoP.1 hoP.2.1 hgp (fun hh => HNO.out (.inl hh)) (by omega) hP2.caps.1 W (hP2.out.on hb) ((hb.block _ (blk_lt hcell)).trans hcell))
      (fun x hx W hb => markC_at x.par.ring x.A x.cap p g3 (HRI.out x hx).1 (HRI.out x hx).2.1 hgp (fun hh => HNO.out (.inr ⟨x, hx, hh⟩)) (by have := (HRI.out x hx).2.2; omega) (hP2.caps.2 x hx) W ((hP2.prs.2 x hx).1.on hb) ((hb.block _ (blk_lt hcell)).trans hcell)))
     have hms := mark_same (p := p) HPQ.out
     have emap : (l.map (parB fun r => putC r p)) = (l.map PV.par).map fun x => (⟨x.id, nmL (putC x.ring p), x.own⟩ : Par) := by rw [List.map_map]; rfl
     rw [emap] at HAN
     have HMS := Lib.hid hms
     clear hP2 hcell hgp hoP hlen h64 hms emap
     obtain ⟨c0, c1⟩ := HQ2.out.pt (.tail _ (.tail _ (.head _)))
     go_wp2_with fail
     go_at_call 13
     refine HAN.out.mono ?_
     rintro e' W4 ⟨hB, hd⟩
     have HQ4 := HQ2.out.on hB
     have hB0 := HQ2.out.1
     clear c0 c1 HAN
     rcases hd with ⟨hc, rfl⟩ | ⟨hc, A1, c1, Ap1, cp1, l', rfl, hm, h1, h2, h3⟩
     ·have HE := Lib.hid (mk_cross HCB.out HGP.out HNB.out HED.out (HMS.out.1.symm.trans hc))
      clear hc hB hB0 HQ2
      have HQ2 := Lib.hid HQ4
      clear HQ4
      obtain ⟨y0, y1⟩ := HQ2.out.pt (.head _)
      obtain ⟨z0, z1⟩ := HQ2.out.fz (.head _)
      go_wp2
      have HE2 := HQ2.out.set2 (.slice none 0 0) (.slice none 0 0)
      obtain ⟨n0, n1⟩ := HE2.pt (.head _)
      refine bodyPost_ret (v := .tuple #[.agg #[.slice none 0 0, .slice none 0 0], .int .i64 8]) ?_ rfl ⟨HE2.1, .inl ⟨by rw [HE.out]; decide, by rw [HE.out]⟩⟩
      simp [results, Try.results9, go_sem, n0, n1]
     ·have hc2 := HMS.out.1.symm.trans hc
      have HE := Lib.hid (mk_ok HCB.out HGP.out HNB.out HED.out hc2)
      obtain ⟨e1, e2⟩ := HMS.out.2 hc2
      rw [e1] at h1 ⊢
      rw [e2] at hm
      have hog := Og.mkSet HQ4 (h1.base hB0) (RowI.base h2 hB0) (OwnRs.base h3 hB0)
      have HOG := Lib.hid hog
      have HM := Lib.hid hm
      obtain ⟨y0, y1⟩ := HQ4.pt (.head _)
      obtain ⟨z0, z1⟩ := HQ4.fz (.head _)
      clear hc hc2 hB hB0 hog hm h1 h2 h3 HQ4 e1 e2
      go_wp2
      obtain ⟨n0, n1⟩ := HOG.out.hold.pt (.head _)
      refine bodyPost_ret (v := .tuple #[.agg #[.slice A1 (putC o p).length c1, .slice Ap1 l'.length cp1], .int .i64 0]) ?_ rfl ⟨HOG.out.hold.1, .inr ⟨HE.out, A1, c1, Ap1, cp1, l', rfl, HM.out, HOG.out.out, HOG.out.row, HOG.out.rs⟩⟩
      simp [results, Try.results9, go_sem, n0, n1]
   ·have HE := Lib.hid (mk_there HCB.out HGP.out ((cB_of l p).symm.trans hco))
    clear hco
    obtain ⟨y0, y1⟩ := HQ2.out.pt (.head _)
    obtain ⟨z0, z1⟩ := HQ2.out.fz (.head _)
    go_wp2
    have HE2 := HQ2.out.set2 (.slice none 0 0) (.slice none 0 0)
    obtain ⟨n0, n1⟩ := HE2.pt (.head _)
    refine bodyPost_ret (v := .tuple #[.agg #[.slice none 0 0, .slice none 0 0], .int .i64 6]) ?_ rfl ⟨HE2.1, .inl ⟨by rw [HE.out]; decide, by rw [HE.out]⟩⟩
    simp [results, Try.results9, go_sem, n0, n1]
end Go.Proofs.Ytfjfmieadedjoaa

namespace Go.Proofs.Ytfjfmieadedjoaa
open Go.RowKit
theorem put_on {r : List (Int × Int)} {p : Int × Int} (hs : Sound r) (hp : p ∉ r) : p ∈ putC r p ↔ onE r p = true := by
 have h3 := hs.1
 cases hE : onE r p
 ·have hoff : putC r p = r := putC_off fun i hi hins => by
   have := onE_yes hi (onB_iff.2 hins.1)
   rw [hE] at this
   cases this
  rw [hoff]
  exact ⟨fun h => absurd h hp, fun h => by cases h⟩
 ·obtain ⟨k, hk, ho⟩ := List.any_eq_true.1 hE
  rw [List.mem_range] at hk
  have hi : Ins (nx r k) (nx r (k + 1)) p := ⟨onB_iff.1 ho, fun e => hp (e ▸ nx_memC (by omega) k), fun e => hp (e ▸ nx_memC (by omega) (k + 1))⟩
  rw [putC_first hs hk hi]
  exact ⟨fun _ => rfl, fun _ => by simp⟩
theorem ed_put {ps : List Par} {p : Int × Int} (hs : ∀ x ∈ ps, Sound x.ring) (hc : cB ps p = false) : cB (ps.map (ptP p)) p = edB ps p := by
 have hno : ∀ x ∈ ps, p ∉ x.ring := fun x hx hh => by
  have := cB_iff.2 ⟨x, hx, hh⟩
  rw [hc] at this
  cases this
 rw [Bool.eq_iff_iff, cB_iff]
 unfold edB
 rw [List.any_eq_true]
 constructor
 ·rintro ⟨y, hy, h⟩
  obtain ⟨x, hx, rfl⟩ := List.mem_map.1 hy
  exact ⟨x, hx, (put_on (hs x hx) (hno x hx)).1 h⟩
 ·rintro ⟨x, hx, h⟩
  exact ⟨ptP p x, List.mem_map_of_mem hx, (put_on (hs x hx) (hno x hx)).2 h⟩
theorem ls_snd {n : Nat} {qs : List Par} (h : ∀ x ∈ qs, SndR n x.ring) : qs.map lsP = qs := by
 have e : qs.map lsP = qs.map id := List.map_congr_left fun x hx => by
  unfold lsP
  rw [lsR_snd (h x hx)]
  rfl
 rw [e, List.map_id]
end Go.Proofs.Ytfjfmieadedjoaa

namespace Go.Proofs.Ytfjfmieadedjoaa
open Go.RowKit
set_option maxRecDepth 100000 in
set_option maxHeartbeats 1000000 in
theorem few8_any (o : List (Int × Int)) (Ao : Option Addr) (co : Nat) (l : List PV) (Ap : Option Addr) (cp : Nat) (ho : o.length ≤ 8796093022208) (w : World) (hr : Prs w Ap l) :
  Calls Try.prog 5 #[.agg #[.slice Ao o.length co, .slice Ap l.length cp]] w fun e w' => FewAt w o l e w' := by
 have HR := Lib.hid (fun W (h : Below w.heap.size w W) => hr.on h)
 have HQ := (Hold.refl w).new #[.slice Ao o.length co, .slice Ap l.length cp] 26
 have HO := Lib.hid ho
 clear hr ho
 go_enter Try.func5, Try.ntmps5
 go_upto_region 1 with (fail)
 generalize (World.alloc _ _) = W1 at HQ ⊢
 obtain ⟨g0, hg0⟩ : ∃ g, w.heap.size = g := ⟨_, rfl⟩
 rw [hg0] at HQ ⊢
 have HG0 := Lib.hid hg0
 clear hg0
 obtain ⟨c0, c1⟩ := HQ.pt (.head _)
 go_wp2_with fail
 go_loopg [3, 4] l.length (fun g n i wr => ∃ k : Nat, k ≤ l.length ∧ g = l.length - k ∧ n = .int .i64 (cornN o l k) ∧ i = .int .i64 k ∧ cornN o l k ≤ 17592186044416 ∧ k ≤ 81 ∧ Hold w [(g0, #[.slice Ao o.length co, .slice Ap l.length cp], 26)] wr)
 case atStart => exact ⟨0, Nat.zero_le _, rfl, rfl, rfl, by have := HO.out; show o.length ≤ _; omega, by decide, HQ⟩
 case round =>
  clear HQ c0 c1
  obtain ⟨k, hk, hgk, rfl, rfl, hcl, hk81, HB⟩ := hrel
  have HGK := Lib.hid hgk
  clear hgk
  obtain ⟨c0, c1⟩ := HB.pt (.head _)
  have HCL := Lib.hid hcl
  have HB9 := Lib.hid HB
  have hcm := fun (m : Nat) (h : k ≤ m) => cornN_mono (o := o) (l := l) h
  have hc0 : o.length ≤ cornN o l k := cornN_mono (o := o) (l := l) (Nat.zero_le k)
  have HCM := Lib.hid (And.intro hc0 (hcm l.length hk))
  by_cases hlt : k < l.length
  ·have b0 : (0 : Int) ≤ (k : Int) := by omega
   have b1 : (k : Int) < (l.length : Int) := by omega
   have hx : l[k]? = some l[k] := List.getElem?_eq_getElem hlt
   have HS := Lib.hid (cornN_succ (o := o) hx)
   by_cases h81 : k < 81
   ·have b2 : (k : Int) < 81 := by omega
    by_cases h400 : cornN o l k ≤ 300
    ·have b3 : (cornN o l k : Int) ≤ 300 := by omega
     have hw := HR.out _ HB.1
     obtain ⟨ad, rfl, -, d0, d1, d2⟩ := hw.at hlt
     have hsz := (hw.2 l[k] (List.getElem_mem hlt)).2.2
     have w1 := wrap_in (n := (cornN o l k : Int) + (l[k].par.ring.length : Int)) (by omega) (by omega)
     clear hw hcm hc0 hx
     obtain ⟨cl, hcl'⟩ : ∃ n, cornN o l k = n := ⟨_, rfl⟩
     rw [hcl'] at hcl b3 w1 HS h400 ⊢
     clear hcl' hsz
     have HSZ := Lib.hid (hr_len HR.out (Below.refl _ w) hlt)
     have H4 := Lib.hid h400
     generalize l[k].par.ring = ps at *
     clear hcl h400 h81 HB
     go_wp2_with fail
     go_roundg (l.length - (k + 1))
     case measure => have := HGK.out; omega
     case rel => exact ⟨k + 1, by omega, rfl, by rw [HS.out]; simp, by go_num, by have := HS.out; have := H4.out; have := HSZ.out; omega, by omega, HB9.out⟩
    ·have b3 : ¬ (cornN o l k : Int) ≤ 300 := by omega
     clear hcm hc0 hx HB
     obtain ⟨cl, hcl'⟩ : ∃ n, cornN o l k = n := ⟨_, rfl⟩
     rw [hcl'] at hcl b3 h400 ⊢
     clear hcl h400 h81 hcl'
     go_wp2
     go_ret
     exact ⟨false, rfl, fun h => (by cases h), HB9.out.1⟩
   ·have b2 : ¬ (k : Int) < 81 := by omega
    have HL : Hid (¬ l.length ≤ 80) := by unfold Hid; omega
    have b4 : ¬ (l.length : Int) ≤ 80 := by omega
    clear hcm hc0 hx HB
    obtain ⟨cl, hcl'⟩ : ∃ n, cornN o l k = n := ⟨_, rfl⟩
    rw [hcl'] at hcl ⊢
    clear hcl h81 hcl'
    by_cases h400 : cl ≤ 300
    ·have b3 : (cl : Int) ≤ 300 := by omega
     clear h400
     go_wp2
     go_ret
     exact ⟨false, rfl, fun h => (by cases h), HB9.out.1⟩
    ·have b3 : ¬ (cl : Int) ≤ 300 := by omega
     clear h400
     go_wp2
     go_ret
     exact ⟨false, rfl, fun h => (by cases h), HB9.out.1⟩
  ·obtain rfl : k = l.length := by omega
   clear hcm hc0 HB
   obtain ⟨cl, hcl'⟩ : ∃ n, cornN o l l.length = n := ⟨_, rfl⟩
   have HCC := Lib.hid hcl'
   rw [hcl'] at hcl ⊢
   clear hcl hcl'
   by_cases h400 : cl ≤ 300
   ·have b3 : (cl : Int) ≤ 300 := by omega
    have H4 := Lib.hid h400
    clear h400
    by_cases h80 : l.length ≤ 80
    ·have b4 : (l.length : Int) ≤ 80 := by omega
     have H8 := Lib.hid h80
     clear h80
     go_wp2
     go_ret
     exact ⟨true, rfl, fun _ => ⟨by have := HCM.out.1; have := HCC.out; have := H4.out; omega, by rw [HCC.out]; exact H4.out, H8.out⟩, HB9.out.1⟩
    ·have b4 : ¬ (l.length : Int) ≤ 80 := by omega
     clear h80
     go_wp2
     go_ret
     exact ⟨false, rfl, fun h => (by cases h), HB9.out.1⟩
   ·have b3 : ¬ (cl : Int) ≤ 300 := by omega
    clear h400
    go_wp2
    go_ret
    exact ⟨false, rfl, fun h => (by cases h), HB9.out.1⟩


def bR : List (Int × Int) := [(0, 0), (2, 0), (4, 0), (4, 4), (0, 4)]
def bP : List Par := [⟨1, bR, noOwn⟩]
theorem bP_plan : PlanQ bR bP := planT_plan (by decide +kernel) (fun x hx => by rw [List.mem_singleton.1 hx]; exact noOwn_ok)
theorem bR_eq : putC gvR (2, 0) = bR := by
 rw [putC_at (k := 0) gv_sound (by decide) ⟨onB_iff.1 (by decide +kernel), by decide +kernel, by decide +kernel⟩]
 decide +kernel
theorem bE_eq : mkE gvR gP (2, 0) = 0 := by
 refine mk_ok ((chkQ_iff gvR gP).2 gP_plan) (by decide +kernel) ?_ (by decide +kernel) ?_
 ·rw [← Bool.not_eq_true, cB_iff]
  rintro ⟨x, hx, h⟩
  unfold gP at hx
  rw [List.mem_singleton.1 hx] at h
  revert h
  decide +kernel
 ·have e : gP.map (ptP (2, 0)) = bP := by
   show [(⟨1, putC gvR (2, 0), noOwn⟩ : Par)] = _
   rw [bR_eq]
   rfl
  rw [bR_eq, e]
  exact (chkQ_iff bR bP).2 bP_plan
set_option maxRecDepth 100000 in
set_option maxHeartbeats 2000000 in
theorem bend_answers (w : World) :
  Calls Try.prog 4 #[] w fun e w' => e = .returned (.bool true) ∧ Below w.heap.size w w' := by
 have HQ := ((Hold.refl w).new (flatP gvR).toArray 28).new' #[.int .i64 1, .slice (some ⟨w.heap.size, 0, none⟩) 4 4, .string noOwn] 39 (n := w.heap.size + 1) (by simp)
 have hp1 := pts_of (ps := gvR) (HQ.2.1 _ (.tail _ (.head _))).1 (HQ.lt (.tail _ (.head _)))
 have hpl : PlanAt _ gvR (some ⟨w.heap.size, 0, none⟩) 4 [⟨⟨1, gvR, noOwn⟩, some ⟨w.heap.size, 0, none⟩, 4⟩] (some ⟨w.heap.size + 1, 0, none⟩) 1 := ⟨⟨items_one (HQ.2.1 _ (.head _)).1 rfl (HQ.lt (.head _)), fun x hx => by
  rw [List.mem_singleton.1 hx]
  exact ⟨hp1, (fun e => by cases e), (show gvR.length * 16 ≤ 140737488355328 by decide)⟩⟩, hp1, (fun e => by cases e), by decide, by decide, fun x hx => by
  rw [List.mem_singleton.1 hx]
  show gvR.length ≤ 4
  decide⟩
 have HSP := Lib.hid (Mark_any gvR (some ⟨w.heap.size, 0, none⟩) 4 [⟨⟨1, gvR, noOwn⟩, some ⟨w.heap.size, 0, none⟩, 4⟩] (some ⟨w.heap.size + 1, 0, none⟩) 1 (2, 0) (show 1 ≤ 1000000 by decide) (by decide) (fun x hx => by
  rw [List.mem_singleton.1 hx]
  show noOwn.size ≤ maxLen
  decide) _ hpl)
 have HQ1 := Lib.hid HQ
 clear HQ hp1 hpl
 go_enter Try.func4, Try.ntmps4
 go_wp2_with fail
 go_at_call 9
 refine HSP.out.mono ?_
 clear HSP
 rintro e' W4 ⟨hB4, ⟨hne, -⟩ | ⟨-, D1, d1, Dp, dp, lq, rfl, -⟩⟩
 ·exact absurd bE_eq hne
 ·have hq4 := HQ1.out.on hB4
  have hlen : (putC gvR (2, 0)).length = 5 := by rw [bR_eq]; rfl
  rw [hlen]
  have HQ4 := Lib.hid (hq4.new #[.slice D1 5 d1, .slice Dp lq.length dp] 26)
  obtain ⟨c0, c1⟩ := HQ4.out.pt (.head _)
  clear hB4 hq4 hlen
  go_wp2
  go_ret
  exact ⟨rfl, HQ4.out.1⟩

noncomputable def mkO (o : List (Int × Int)) (ps : List Par) (p : Int × Int) : List (Int × Int) := if mkE o ps p = 0 then putC o p else []
noncomputable def mkP (o : List (Int × Int)) (ps : List Par) (p : Int × Int) : List Par := if mkE o ps p = 0 then ps.map (ptP p) else []
theorem mk_sound {o : List (Int × Int)} {ps : List Par} {p : Int × Int} (h : mkE o ps p = 0) : PlanQ (putC o p) (ps.map (ptP p)) := by
 unfold mkE at h
 split at h
 ·cases h
 ·split at h
  ·cases h
  ·split at h
   ·cases h
   ·split at h
    ·cases h
    ·split at h
     ·cases h
     ·rename_i h5
      exact (chkQ_iff _ _).1 ((Bool.not_eq_false _).mp h5)
theorem mk_small (o : List (Int × Int)) (ps : List Par) (p : Int × Int) : (mkO o ps p).length ≤ 128 ∧ (mkP o ps p).length ≤ 64 := by
 unfold mkO mkP
 by_cases h : mkE o ps p = 0
 ·rw [if_pos h, if_pos h]
  exact ⟨(mk_sound h).outP.2.2, (mk_sound h).fine.2.2.2.1⟩
 ·rw [if_neg h, if_neg h]
  exact ⟨Nat.zero_le _, Nat.zero_le _⟩
theorem MarkAt.plan {w w' : World} {o : List (Int × Int)} {ps : List Par} {p : Int × Int} {e : Ending} (h : MarkAt w w' o ps p e) : Below w.heap.size w w' ∧ ∃ A1 c1 l1 Ap1 cp1, e = .returned (.tuple #[.agg #[.slice A1 (mkO o ps p).length c1, .slice Ap1 l1.length cp1], .int .i64 (mkE o ps p)]) ∧ l1.map PV.par = mkP o ps p ∧ PlanAt w' (mkO o ps p) A1 c1 l1 Ap1 cp1 := by
 obtain ⟨hB, ⟨hne, rfl⟩ | ⟨hz, A1, c1, Ap1, cp1, l1, rfl, hm, h1, h2, h3⟩⟩ := h
 ·have e1 : mkO o ps p = [] := if_neg hne
  have e2 : mkP o ps p = [] := if_neg hne
  rw [e1, e2]
  exact ⟨hB, none, 0, [], none, 0, rfl, rfl, ⟨⟨Items.nil _ _ _ _, fun x hx => nomatch hx⟩, fun hp => absurd hp (by simp), fun _ => rfl, by simp, by simp, fun x hx => nomatch hx⟩⟩
 ·have e1 : mkO o ps p = putC o p := if_pos hz
  have e2 : mkP o ps p = ps.map (ptP p) := if_pos hz
  have hP := mk_sound hz
  rw [e1, e2, hz]
  refine ⟨hB, A1, c1, l1, Ap1, cp1, rfl, hm, planAt_of h1 h2 h3 (by have := hP.outP.2.2; omega) (fun x hx => ?_)⟩
  have := (hP.ringP (x := x.par) (by rw [← hm]; exact List.mem_map_of_mem hx)).2.2
  omega
end Go.Proofs.Ytfjfmieadedjoaa

namespace Go.Proofs.Ytfjfmieadedjoaa
open Go.RowKit
def MkAns (w w' : World) (on : List (Int × Int)) (qs : List Par) (er : Int) (e : Ending) : Prop := Below w.heap.size w w' ∧ ∃ A2 c2 l2 Ap2 cp2, e = .returned (.tuple #[.agg #[.slice A2 on.length c2, .slice Ap2 l2.length cp2], .int .i64 er]) ∧ l2.map PV.par = qs ∧ Row w (.slice A2 on.length c2) on w' ∧ RowI w 39 3 encV (.slice Ap2 l2.length cp2) l2 w' ∧ OwnRs w l2 w'
theorem MarkAt.ans {w w' : World} {o : List (Int × Int)} {ps : List Par} {p : Int × Int} {e : Ending} (h : MarkAt w w' o ps p e) : MkAns w w' (mkO o ps p) (mkP o ps p) (mkE o ps p) e := by
 obtain ⟨hB, ⟨hne, rfl⟩ | ⟨hz, A1, c1, Ap1, cp1, l1, rfl, hm, h1, h2, h3⟩⟩ := h
 ·have e1 : mkO o ps p = [] := if_neg hne
  have e2 : mkP o ps p = [] := if_neg hne
  rw [e1, e2]
  exact ⟨hB, none, 0, [], none, 0, rfl, rfl, ⟨hB, World.ownsRow_nil _ _ _ _⟩, RowI.nil hB, fun x hx => nomatch hx⟩
 ·have e1 : mkO o ps p = putC o p := if_pos hz
  have e2 : mkP o ps p = ps.map (ptP p) := if_pos hz
  rw [e1, e2, hz]
  exact ⟨hB, A1, c1, l1, Ap1, cp1, rfl, hm, h1, h2, h3⟩
theorem mk_rings {o : List (Int × Int)} {ps : List Par} {p : Int × Int} {l2 : List PV} (hm : l2.map PV.par = mkP o ps p) : ∀ x ∈ l2, x.par.ring.length ≤ 1000 := fun x hx => by
 have hx2 : x.par ∈ mkP o ps p := by rw [← hm]; exact List.mem_map_of_mem hx
 unfold mkP at hx2
 split at hx2
 ·rename_i h
  have := ((mk_sound h).ringP hx2).2.2
  omega
 ·cases hx2
end Go.Proofs.Ytfjfmieadedjoaa

namespace Go.Proofs.Ytfjfmieadedjoaa
open Go.RowKit
def Dst (A1 : Option Addr) (l : List PV) : Prop := (∀ x ∈ l, ∀ a b, A1 = some a → x.A = some b → a.block < b.block) ∧ l.Pairwise fun x y => ∀ a b, x.A = some a → y.A = some b → a.block < b.block
theorem Dst.nil (A1 : Option Addr) : Dst A1 [] := ⟨(fun _ hx => nomatch hx), List.Pairwise.nil⟩
theorem Dst.more {A1 : Option Addr} {l : List PV} {y : PV} {n : Nat} (h : Dst A1 l) (h1 : ∀ a, A1 = some a → a.block < n) (h2 : ∀ x ∈ l, ∀ a, x.A = some a → a.block < n) (h3 : ∀ a, y.A = some a → n ≤ a.block) : Dst A1 (l ++ [y]) := by
 constructor
 ·intro x hx a b ha hb
  rcases List.mem_append.1 hx with hx | hx
  ·exact h.1 x hx a b ha hb
  ·rw [List.mem_singleton.1 hx] at hb
   exact Nat.lt_of_lt_of_le (h1 a ha) (h3 b hb)
 ·rw [List.pairwise_append]
  refine ⟨h.2, List.pairwise_singleton _ _, fun x hx z hz a b ha hb => ?_⟩
  rw [List.mem_singleton.1 hz] at hb
  exact Nat.lt_of_lt_of_le (h2 x hx a ha) (h3 b hb)
theorem row_lt {W : World} {b n k : Nat} {T : TypeId} {A : Option Addr} {c : Nat} {xs : List Value} {m : Nat} (h : W.ownsRow b T m (.slice A n c) k xs) : ∀ a, A = some a → a.block < W.heap.size := fun a e => by
 subst e
 rcases h.2 with ⟨e, -⟩ | ⟨g, cap, cur, e, hg, hh, -⟩
 ·cases e
 ·obtain ⟨e1, -, -⟩ := Value.slice.inj e
  rw [Option.some.inj e1]
  exact blk_lt hh
theorem row_ge {w W : World} {v : Value} {ps : List (Int × Int)} (h : Row w v ps W) : ∀ (a : Addr) {n c : Nat}, v = .slice (some a) n c → w.heap.size ≤ a.block := fun a n c e => by
 subst e
 rcases h.2.2 with ⟨e, -⟩ | ⟨g, cap, cur, e, hg, hh, -⟩
 ·cases e
 ·obtain ⟨e1, -, -⟩ := Value.slice.inj e
  rw [Option.some.inj e1]
  exact hg
set_option maxRecDepth 100000 in
set_option maxHeartbeats 1000000 in
theorem Own_dst (o : List (Int × Int)) (Ao : Option Addr) (co : Nat) (l : List PV) (Ap : Option Addr) (cp : Nat) (hl : l.length ≤ 1000000) (w : World) (h : PlanAt w o Ao co l Ap cp) :
  Calls Try.prog 7 #[.agg #[.slice Ao o.length co, .slice Ap l.length cp]] w fun e w' => Below w.heap.size w w' ∧ ∃ A1 c1 l' Ap1 cp1, e = .returned (.agg #[.slice A1 o.length c1, .slice Ap1 l.length cp1]) ∧ l'.map PV.par = l.map PV.par ∧ PlanAt w' o A1 c1 l' Ap1 cp1 ∧ Row w (.slice A1 o.length c1) o w' ∧ RowI w 39 3 encV (.slice Ap1 l.length cp1) l' w' ∧ OwnRs w l' w' ∧ Dst A1 l' := by
 have HPR := Lib.hid (fun W (hb : Below w.heap.size w W) => h.prs.on hb)
 have HPO := Lib.hid (fun W (hb : Below w.heap.size w W) => h.out.on hb)
 have HNI := Lib.hid h.nil
 have HRO := Lib.hid h.room
 have HQ := ((Hold.refl w).new #[.slice Ao o.length co, .slice Ap l.length cp] 26).new' #[.slice none 0 0, .slice none 0 0] 26 (n := w.heap.size + 1) (by simp)
 clear h
 go_enter Try.func7, Try.ntmps7
 go_upto_region 1 with (fail)
 generalize (World.alloc (World.alloc w _) _) = W1 at HQ ⊢
 generalize w.heap.size + 1 = g2 at HQ ⊢
 obtain ⟨g1, hg1⟩ : ∃ g, w.heap.size = g := ⟨_, rfl⟩
 have HG1 := Lib.hid hg1
 rw [hg1] at HQ ⊢
 clear hg1
 obtain ⟨c0, c1⟩ := HQ.pt (List.mem_cons_of_mem _ List.mem_cons_self)
 have HQX := Lib.hid HQ
 have hz1 := HQX.out.lt (List.mem_cons_of_mem _ List.mem_cons_self)
 have HMD := Lib.hid (Row.made W1 28 rfl)
 clear HQ
 go_upto_region 2 with (at_builtin; go_must (refine append_pts _ Try.underlying23 HMD.out o Ao co (HPO.out _ (Below.trans HQX.out.1 (HMD.out.1.mono HQX.out.1.size))) HNI.out (by have := HRO.out; simpa using this) rfl _ _ rfl rfl rfl ?_; rintro v1 W2 HR1; have hq2 := HQX.out.on HR1.1; have hr1 := HR1.base HQX.out.1; rw [List.nil_append] at hr1; obtain ⟨A1, cA, rfl, -, hn1, hc1⟩ := hr1.full; have HN1 := Lib.hid hn1; have HC1 := Lib.hid hc1; have HR2 := Lib.hid hr1; have HQ2 := Lib.hid hq2; clear HR1 hr1 hn1 hc1 hq2))
 clear c0 c1 hz1
 have HQ3 := HQ2.out.new #[.slice A1 o.length cA, .slice none 0 0] 26
 have HR3 := HR2.out.alloc (Obj.cells #[.slice A1 o.length cA, .slice none 0 0] 26 (0, 0))
 generalize (World.alloc _ _) = W3 at HQ3 HR3 ⊢
 generalize W2.heap.size = g3 at HQ3 ⊢
 clear HQX HMD
 obtain ⟨c0, c1⟩ := HQ3.pt (List.mem_cons_of_mem _ (List.mem_cons_of_mem _ List.mem_cons_self))
 have HQY := Lib.hid HQ3
 have HRY := Lib.hid HR3
 clear HQ3 HR3 HR2 HQ2
 go_wp2_with fail
 clear c0 c1
 go_loopg [4] l.length (fun g i wr => ∃ (k : Nat) (v : Value) (l' : List PV), k ≤ l.length ∧ g = l.length - k ∧ i = .int .i64 k ∧ l'.map PV.par = (l.take k).map PV.par ∧ Row w (.slice A1 o.length cA) o wr ∧ RowI w 39 3 encV v l' wr ∧ OwnRs w l' wr ∧ Dst A1 l' ∧ Hold w [(g3, #[.slice A1 o.length cA, v], 26), (g2, #[.slice none 0 0, .slice none 0 0], 26), (g1, #[.slice Ao o.length co, .slice Ap l.length cp], 26)] wr)
 case atStart => exact ⟨0, .slice none 0 0, [], Nat.zero_le _, rfl, rfl, rfl, HRY.out, RowI.nil HRY.out.1, (fun x hx => (by cases hx)), Dst.nil _, HQY.out⟩
 case round =>
  obtain ⟨k, v, l', hk, hgk, rfl, hmap, HO, HV, HOR, HDI, HB⟩ := hrel
  have HDS := Lib.hid HDI
  clear HDI
  have HGK := Lib.hid hgk
  have HMAP := Lib.hid hmap
  clear hgk hmap
  obtain ⟨c0, c1'⟩ := HB.pt (List.mem_cons_of_mem _ (List.mem_cons_of_mem _ List.mem_cons_self))
  by_cases hlt : k < l.length
  ·have hw := HPR.out _ HB.1
   obtain ⟨ad, rfl, -, d0, d1, d2⟩ := hw.at hlt
   obtain ⟨hp, hnil, hsz⟩ := hw.2 l[k] (List.getElem_mem hlt)
   have b0 : (0 : Int) ≤ (k : Int) := by omega
   have b1 : (k : Int) < (l.length : Int) := by omega
   have HMT : Hid ((l.take (k + 1)).map PV.par = (l.take k).map PV.par ++ [l[k].par]) := by
    unfold Hid
    rw [List.take_succ_eq_append_getElem hlt, List.map_append]; rfl
   have HLL : Hid (l'.length ≤ 1000000) := by
    have := congrArg List.length HMAP.out
    rw [List.length_map, List.length_map, List.length_take] at this
    unfold Hid; omega
   have HP := Lib.hid hp
   have HNL := Lib.hid hnil
   have HSZ := Lib.hid hsz
   clear hw hp hnil hsz
   generalize l[k].par = x at *
   generalize l[k].A = Ak at *
   generalize l[k].cap = ck at *
   go_upto_region 6 with (fail)
   have hb1 := (Below.refl wr.heap.size wr).alloc (Nat.le_refl _) (.cells #[.int .i64 x.id, .slice Ak x.ring.length ck, .string x.own] 39 (0, 0))
   have HQ := HB.new #[.int .i64 x.id, .slice Ak x.ring.length ck, .string x.own] 39
   have HP1 := HP.out.on hb1
   have HO1 := HO.on hb1
   have HV1 := HV.on hb1
   have HOR1 := HOR.on hb1
   have HNV := Lib.hid (HV.row_ne (Nat.le_refl _))
   clear HB HP HO HV HOR hb1 d0 d1 d2 c0 c1'
   generalize (World.alloc _ _) = W5 at HQ HP1 HO1 HV1 HOR1 ⊢
   generalize wr.heap.size = g5 at HQ HNV ⊢
   have k1 := HQ.cell (.head _) 1
   simp only [List.getElem?_toArray, List.getElem?_cons_zero, List.getElem?_cons_succ] at k1
   have hz5 := HQ.lt (.head _)
   have HMD := Lib.hid (Row.made W5 28 rfl)
   have HQ5 := Lib.hid HQ
   have HP5 := Lib.hid HP1
   have HO5 := Lib.hid HO1
   have HV5 := Lib.hid HV1
   have HOR5 := Lib.hid HOR1
   clear HQ HP1 HO1 HV1 HOR1
   go_upto_region 7 with (at_builtin; go_must (refine append_pts _ Try.underlying23 HMD.out x.ring Ak ck (HP5.out.on HMD.out.1) HNL.out (by have := HSZ.out; simpa using this) rfl _ _ rfl rfl rfl ?_; rintro v6 W6 HR6; rw [List.nil_append] at HR6; have hgr6 := Lib.hid (row_ge HR6); have hq6 := HQ5.out.on HR6.1; have hr6 := HR6.base HQ5.out.1; obtain ⟨A6, c6, rfl, -, hn6, hc6⟩ := hr6.full; have HDD : Hid (Dst A1 (l' ++ [(⟨x, A6, c6⟩ : PV)])) := Dst.more HDS.out (row_lt HO5.out.2) (fun y hy => row_lt (HOR5.out y hy)) (fun ad e => hgr6.out ad (n := x.ring.length) (c := c6) (by have e' : A6 = some ad := e; rw [e'])); have k6 := hq6.frozen (.head _) 1; have HN6 := Lib.hid hn6; have HC6 := Lib.hid hc6; have HR7 := Lib.hid hr6; have HQ6 := Lib.hid hq6; have HO6 := Lib.hid (HO5.out.on HR6.1); have HV6 := Lib.hid (HV5.out.on HR6.1); have HOR6 := Lib.hid (HOR5.out.on HR6.1); have k7 := hq6.cell (.head _) 1; clear HR6 hr6 hn6 hc6 hq6))
   clear k1 hz5
   have HQ7 : Hold w [(g5, #[.int .i64 x.id, .slice A6 x.ring.length c6, .string x.own], 39), (g3, #[.slice A1 o.length cA, v], 26), (g2, #[.slice none 0 0, .slice none 0 0], 26), (g1, #[.slice Ao o.length co, .slice (some ad) l.length cp], 26)] (W6.setCell ⟨g5, 1, none⟩ (.slice A6 x.ring.length c6)) := HQ6.out.set 1 (.slice A6 x.ring.length c6)
   have hh5 := (HQ6.out.2.1 _ (.head _)).1
   have HV7 : RowI w 39 3 encV v l' (W6.setCell ⟨g5, 1, none⟩ (.slice A6 x.ring.length c6)) := ⟨HQ7.1, row_far_set HV6.out.2 HNV.out 1 _⟩
   have HO7 : Row w (.slice A1 o.length cA) o (W6.setCell ⟨g5, 1, none⟩ (.slice A6 x.ring.length c6)) := ⟨HQ7.1, row_far_set HO6.out.2 (row_block HO6.out.2 hh5 (show (39 : Nat) ≠ 28 by decide)) 1 _⟩
   have HOR7 := HOR6.out.set hh5 (show (39 : Nat) ≠ 28 by decide) 1 (.slice A6 x.ring.length c6)
   have HNR7 := row_far_set HR7.out.2 (row_block HR7.out.2 hh5 (show (39 : Nat) ≠ 28 by decide)) 1 (.slice A6 x.ring.length c6)
   have HOX : Hid (OwnRs w (l' ++ [⟨x, A6, c6⟩]) (W6.setCell ⟨g5, 1, none⟩ (.slice A6 x.ring.length c6))) := fun y hy => by
    rcases List.mem_append.1 hy with hy | hy
    ·exact HOR7 y hy
    ·obtain rfl := List.mem_singleton.1 hy
     exact HNR7
   clear hh5 HOR7 HNR7 HV6 HO6 HOR6 HR7 HQ6 HQ5 HP5 HO5 HV5 HOR5 HMD k6 k7
   generalize (World.setCell W6 _ _) = W7 at HQ7 HV7 HO7 HOX ⊢
   have k0 := HQ7.cell (.head _) 0
   have k1 := HQ7.cell (.head _) 1
   have k2 := HQ7.cell (.head _) 2
   have m1 := HQ7.cell (List.mem_cons_of_mem _ List.mem_cons_self) 1
   simp only [List.getElem?_toArray, List.getElem?_cons_zero, List.getElem?_cons_succ] at k0 k1 k2 m1
   have HNG3 := Lib.hid (HV7.apart (HQ7.2.1 _ (List.mem_cons_of_mem _ List.mem_cons_self)).1 (show (26 : Nat) ≠ 39 by decide))
   have HNG2 := Lib.hid (HV7.apart (HQ7.2.1 _ (List.mem_cons_of_mem _ (List.mem_cons_of_mem _ List.mem_cons_self))).1 (show (26 : Nat) ≠ 39 by decide))
   have HNG1 := Lib.hid (HV7.apart (HQ7.2.1 _ (List.mem_cons_of_mem _ (List.mem_cons_of_mem _ (List.mem_cons_of_mem _ List.mem_cons_self)))).1 (show (26 : Nat) ≠ 39 by decide))
   have HV8 := Lib.hid HV7
   have HQ8 := Lib.hid HQ7
   have HO8 := Lib.hid HO7
   clear HV7 HQ7 HO7
   go_wp2_with (at_builtin; go_must (refine append_itemG kindV Try.underlying24 HV8.out ⟨x, A6, c6⟩ 39 #[.int .i64 x.id, .slice A6 x.ring.length c6, .string x.own] rfl (by have := HLL.out; unfold maxLen; omega) (by have := HLL.out; omega) rfl _ _ rfl rfl 1 rfl ?_; rintro v9 w9 HR9 hg9; have hq9 := Hold.grow (HQ8.out.alloc (Obj.cells #[.int .i64 x.id, .slice A6 x.ring.length c6, .string x.own] 39 (0, 0))) HR9.1 hg9 (fun e he => by rcases List.mem_cons.1 he with rfl | he; exact HNV.out; rcases List.mem_cons.1 he with rfl | he; exact HNG3.out; rcases List.mem_cons.1 he with rfl | he; exact HNG2.out; rcases List.mem_cons.1 he with rfl | he; exact HNG1.out; cases he); have HX9 := Lib.hid (OwnRs.grow (OwnRs.alloc HOX.out (Obj.cells #[.int .i64 x.id, .slice A6 x.ring.length c6, .string x.own] 39 (0, 0))) (HV8.out.alloc (Obj.cells #[.int .i64 x.id, .slice A6 x.ring.length c6, .string x.own] 39 (0, 0))).2 (show (28 : Nat) ≠ 39 by decide) hg9); have HO9 := Lib.hid (((HO8.out.alloc (Obj.cells #[.int .i64 x.id, .slice A6 x.ring.length c6, .string x.own] 39 (0, 0))).2).kept hg9 (rows_apart (HO8.out.alloc (Obj.cells #[.int .i64 x.id, .slice A6 x.ring.length c6, .string x.own] 39 (0, 0))).2 (HV8.out.alloc (Obj.cells #[.int .i64 x.id, .slice A6 x.ring.length c6, .string x.own] 39 (0, 0))).2 (show (28 : Nat) ≠ 39 by decide))); obtain ⟨A9, c9, hv9, -, -⟩ := HR9.items; have hl9 : (l' ++ [(⟨x, A6, c6⟩ : PV)]).length = l'.length + 1 := (by simp); rw [hl9] at hv9; have HRR := Lib.hid HR9; have z1 := hq9.frozen (List.mem_cons_of_mem _ List.mem_cons_self) 1; have z2 := hq9.cell (List.mem_cons_of_mem _ List.mem_cons_self) 1; have HQ9 := Lib.hid hq9; subst hv9; clear HR9 hg9 hq9 hl9))
   have HQ10 : Hold w [(g3, #[.slice A1 o.length cA, .slice A9 (l'.length + 1) c9], 26), (g2, #[.slice none 0 0, .slice none 0 0], 26), (g1, #[.slice Ao o.length co, .slice (some ad) l.length cp], 26)] _ := HQ9.out.tail.set 1 (.slice A9 (l'.length + 1) c9)
   have hh3 := (HQ9.out.2.1 _ (List.mem_cons_of_mem _ List.mem_cons_self)).1
   have hv10 : RowI w 39 3 encV (.slice A9 (l'.length + 1) c9) (l' ++ [(⟨x, A6, c6⟩ : PV)]) (w9.setCell ⟨g3, 1, none⟩ (.slice A9 (l'.length + 1) c9)) := ⟨HQ10.1, row_far_set HRR.out.2 (row_block HRR.out.2 hh3 (show (26 : Nat) ≠ 39 by decide)) 1 _⟩
   have ho10 : Row w (.slice A1 o.length cA) o (w9.setCell ⟨g3, 1, none⟩ (.slice A9 (l'.length + 1) c9)) := ⟨HQ10.1, row_far_set HO9.out (row_block HO9.out hh3 (show (26 : Nat) ≠ 28 by decide)) 1 _⟩
   have hx10 := HX9.out.set hh3 (show (26 : Nat) ≠ 28 by decide) 1 (.slice A9 (l'.length + 1) c9)
   go_roundg (l.length - (k + 1))
   case measure => have := HGK.out; omega
   case rel => exact ⟨k + 1, _, l' ++ [(⟨x, A6, c6⟩ : PV)], by omega, rfl, by go_num, by rw [HMT.out, List.map_append, HMAP.out]; rfl, ho10, hv10, hx10, HDD.out, HQ10⟩
  ·obtain rfl : k = l.length := by omega
   have HMF : Hid (l'.map PV.par = l.map PV.par) := by have := HMAP.out; rwa [List.take_length] at this
   obtain ⟨A9, c9, hv9, -, -⟩ := HV.items
   have hlen : l'.length = l.length := by have := congrArg List.length HMF.out; rwa [List.length_map, List.length_map] at this
   rw [hlen] at hv9
   subst hv9
   obtain ⟨m0, m1⟩ := HB.pt (.head _)
   obtain ⟨y0, y1⟩ := HB.pt (List.mem_cons_of_mem _ List.mem_cons_self)
   obtain ⟨z0, z1⟩ := HB.fz (List.mem_cons_of_mem _ List.mem_cons_self)
   have HBX := Lib.hid HB
   have HVX := Lib.hid HV
   have HOX := Lib.hid HO
   have HRX := Lib.hid HOR
   clear HB HV HO HOR hlen
   go_wp2
   have HE := HBX.out.swap2 (.slice A1 o.length cA) (.slice A9 l.length c9)
   have hh2 := (HBX.out.2.1 _ (List.mem_cons_of_mem _ List.mem_cons_self)).1
   have hh2' := (((Hold.swap HBX.out 0 (.slice A1 o.length cA)).2.1 _ (List.mem_cons_of_mem _ List.mem_cons_self))).1
   have hv : RowI w 39 3 encV (.slice A9 l.length c9) l' ((wr.setCell ⟨g2, 0, none⟩ (.slice A1 o.length cA)).setCell ⟨g2, 1, none⟩ (.slice A9 l.length c9)) := ⟨HE.1, row_far_set (row_far_set HVX.out.2 (row_block HVX.out.2 hh2 (show (26 : Nat) ≠ 39 by decide)) 0 _) (row_block HVX.out.2 hh2 (show (26 : Nat) ≠ 39 by decide)) 1 _⟩
   have ho : Row w (.slice A1 o.length cA) o ((wr.setCell ⟨g2, 0, none⟩ (.slice A1 o.length cA)).setCell ⟨g2, 1, none⟩ (.slice A9 l.length c9)) := ⟨HE.1, row_far_set (row_far_set HOX.out.2 (row_block HOX.out.2 hh2 (show (26 : Nat) ≠ 28 by decide)) 0 _) (row_block HOX.out.2 hh2 (show (26 : Nat) ≠ 28 by decide)) 1 _⟩
   have hrs := (HRX.out.set hh2 (show (26 : Nat) ≠ 28 by decide) 0 (.slice A1 o.length cA)).set hh2' (show (26 : Nat) ≠ 28 by decide) 1 (.slice A9 l.length c9)
   obtain ⟨n0, n1⟩ := HE.pt (List.mem_cons_of_mem _ List.mem_cons_self)
   obtain ⟨i1, i2, i3⟩ := hv.full
   obtain ⟨j1, j2, j3⟩ := ho.whole
   refine bodyPost_ret (v := .agg #[.slice A1 o.length cA, .slice A9 l.length c9]) ?_ rfl ⟨HE.1, A1, cA, l', A9, c9, rfl, HMF.out, ⟨⟨i1, fun x hx => ?_⟩, j1, j2, HRO.out, j3, fun x hx => ?_⟩, ho, hv, hrs, HDS.out⟩
   ·simp [results, Try.results7, go_sem, n0, n1]
   ·obtain ⟨r1, r2, r3⟩ := (show Row w (.slice x.A x.par.ring.length x.cap) x.par.ring _ from ⟨HE.1, hrs x hx⟩).whole
    refine ⟨r1, r2, ?_⟩
    have hm : x.par ∈ l.map PV.par := by rw [← HMF.out]; exact List.mem_map.2 ⟨x, hx, rfl⟩
    obtain ⟨y, hy, e⟩ := List.mem_map.1 hm
    rw [← e]
    exact ((HPR.out w (Below.refl _ _)).2 y hy).2.2
   ·exact ((show Row w (.slice x.A x.par.ring.length x.cap) x.par.ring _ from ⟨HE.1, hrs x hx⟩).whole).2.2


end Go.Proofs.Ytfjfmieadedjoaa

namespace Go.Proofs.Ytfjfmieadedjoaa
open Go.RowKit
theorem flatP_put2 : ∀ (ps : List (Int × Int)) (i : Nat) (q : Int × Int), flatP (ps.set i q) = ((flatP ps).set (i * 2) (.int .i64 q.1)).set (i * 2 + 1) (.int .i64 q.2)
 |[], i, q => by simp [flatP]
 |p :: ps, 0, q => by simp [flatP]
 |p :: ps, i + 1, q => by
  rw [List.set_cons_succ]
  simp only [flatP]
  rw [flatP_put2 ps i q, show (i + 1) * 2 = i * 2 + 2 by omega]
  rfl
theorem own_set {W : World} {B n cap k m g i : Nat} {T : TypeId} {xs : List Value} (h : W.ownsRow B T m (.slice (some ⟨g, 0, none⟩) n cap) k xs) (u : Value) : (W.setCell ⟨g, i, none⟩ u).ownsRow B T m (.slice (some ⟨g, 0, none⟩) n cap) k (xs.set i u) := by
 obtain ⟨hl, h2⟩ := h
 rcases h2 with ⟨e, -⟩ | ⟨g', cap', cur, e, hb, hh, h3, h4, h5, h6⟩
 ·cases e
 ·obtain ⟨e1, e2, e3⟩ := Value.slice.inj e
  obtain rfl : g = g' := by simpa using e1
  subst e3
  refine ⟨?_, .inr ⟨g, cap, cur.setIfInBounds i u, ?_, hb, ?_, ?_, h4, ?_, ?_⟩⟩
  ·rw [List.length_set, hl]
  ·rw [e2]
  ·simp [World.setCell, Array.getElem?_modify, hh]
  ·exact h3
  ·simp [h5]
  ·rw [← h6]
   simp [List.take_set]
theorem own_block {W : World} {B n cap k m : Nat} {T : TypeId} {A : Option Addr} {xs : List Value} (h : W.ownsRow B T m (.slice A n cap) k xs) (h0 : 0 < k) : ∃ g, A = some ⟨g, 0, none⟩ ∧ B ≤ g ∧ (∃ cs, W.heap[g]? = some (.cells cs T (0, 0))) := by
 rcases h.2 with ⟨-, hz⟩ | ⟨g, cap', cur, e, hb, hh, -⟩
 ·omega
 ·obtain ⟨e1, -, -⟩ := Value.slice.inj e
  exact ⟨g, e1, hb, _, hh⟩
theorem own_far {W : World} {B n cap k m g : Nat} {T : TypeId} {A : Option Addr} {xs : List Value} (h : W.ownsRow B T m (.slice A n cap) k xs) (hne : ∀ a, A = some a → a.block ≠ g) (i : Nat) (u : Value) : (W.setCell ⟨g, i, none⟩ u).ownsRow B T m (.slice A n cap) k xs := by
 refine row_far_set h (fun e => ?_) i u
 cases A with
 |none => cases e
 |some a => exact hne a rfl (Option.some.inj e)
theorem set_enc {l : List PV} {k : Nat} {x y : PV} (hx : l[k]? = some x) (he : encV y = encV x) : (l.set k y).flatMap encV = l.flatMap encV := by
 induction l generalizing k with
 |nil => simp at hx
 |cons a l ih =>
  cases k with
  |zero =>
   simp only [List.getElem?_cons_zero, Option.some.injEq] at hx
   subst hx
   simp only [List.set_cons_zero, List.flatMap_cons, he]
  |succ k =>
   rw [List.set_cons_succ, List.flatMap_cons, List.flatMap_cons, ih (by simpa using hx)]
theorem Dst.set {A1 : Option Addr} {l : List PV} (h : Dst A1 l) {k : Nat} {x y : PV} (hx : l[k]? = some x) (he : y.A = x.A) : Dst A1 (l.set k y) := by
 have hk : k < l.length := by
  rcases Nat.lt_or_ge k l.length with h | h
  ·exact h
  ·rw [List.getElem?_eq_none h] at hx; cases hx
 have hxe : l[k] = x := by rw [List.getElem?_eq_getElem hk] at hx; exact Option.some.inj hx
 have key : ∀ i (hi : i < l.length), ((l.set k y)[i]'(by rw [List.length_set]; exact hi)).A = l[i].A := fun i hi => by
  rw [List.getElem_set]
  split
  ·rename_i e
   subst e
   rw [he, hxe]
  ·rfl
 constructor
 ·intro z hz a b ha hb
  obtain ⟨i, hi, e⟩ := List.getElem_of_mem hz
  rw [List.length_set] at hi
  rw [← e, key i hi] at hb
  exact h.1 _ (List.getElem_mem hi) a b ha hb
 ·rw [List.pairwise_iff_getElem]
  intro i j hi hj hij a b ha hb
  rw [List.length_set] at hi hj
  rw [key i hi] at ha
  rw [key j hj] at hb
  exact List.pairwise_iff_getElem.1 h.2 i j hi hj hij a b ha hb
theorem Dst.ne {A1 : Option Addr} {l : List PV} (h : Dst A1 l) {i j : Nat} (hi : i < l.length) (hj : j < l.length) (hne : i ≠ j) {a b : Addr} (ha : l[i].A = some a) (hb : l[j].A = some b) : a.block ≠ b.block := by
 rcases Nat.lt_or_gt_of_ne hne with hlt | hlt
 ·have := List.pairwise_iff_getElem.1 h.2 i j hi hj hlt a b ha hb
  omega
 ·have := List.pairwise_iff_getElem.1 h.2 j i hj hi hlt b a hb ha
  omega
theorem Og.point {w W : World} {A1 Ap : Option Addr} {o : List (Int × Int)} {c1 n cp g : Nat} {l : List PV} {K : List (Nat × Array Value × TypeId)} (h : Og w A1 o c1 Ap n l cp g K W) (hd : Dst A1 l) (hK : ∀ e ∈ K, e.2.2 ≠ 28) {k : Nat} {x : PV} (hx : l[k]? = some x) {j : Nat} (hj : j < x.par.ring.length) (q : Int × Int) :
  ∃ gr, x.A = some ⟨gr, 0, none⟩ ∧ W.frozen? ⟨gr, j * 2, none⟩ = false ∧ W.frozen? ⟨gr, j * 2 + 1, none⟩ = false ∧ Og w A1 o c1 Ap n (l.set k ⟨⟨x.par.id, x.par.ring.set j q, x.par.own⟩, x.A, x.cap⟩) cp g K ((W.setCell ⟨gr, j * 2, none⟩ (.int .i64 q.1)).setCell ⟨gr, j * 2 + 1, none⟩ (.int .i64 q.2)) ∧ Dst A1 (l.set k ⟨⟨x.par.id, x.par.ring.set j q, x.par.own⟩, x.A, x.cap⟩) := by
 have hk : k < l.length := by
  rcases Nat.lt_or_ge k l.length with h | h
  ·exact h
  ·rw [List.getElem?_eq_none h] at hx; cases hx
 have hxe : l[k] = x := by rw [List.getElem?_eq_getElem hk] at hx; exact Option.some.inj hx
 have hmem : x ∈ l := List.mem_of_getElem? hx
 obtain ⟨gr, hA, hbg, cs, hcs⟩ := own_block (h.rs x hmem) (by omega)
 refine ⟨gr, hA, blk_frozen hcs _, blk_frozen hcs _, ?_, hd.set hx rfl⟩
 have hfar : ∀ (e : Nat × Array Value × TypeId), W.heap[e.1]? = some (.cells e.2.1 e.2.2 (0, 0)) → e.2.2 ≠ 28 → e.1 ≠ gr := fun e he ht hh => by
  rw [hh, hcs] at he
  have h1 := Option.some.inj he
  injection h1 with _ h2 _
  exact ht h2.symm
 have hnP : (26 : Nat) ≠ 28 := by decide
 have hnQ : (39 : Nat) ≠ 28 := by decide
 have hset : ∀ (V : World) (i : Nat) (u : Value), Hold w ((g, #[.slice A1 o.length c1, .slice Ap n cp], 26) :: K) V → (∀ e ∈ (g, #[.slice A1 o.length c1, .slice Ap n cp], 26) :: K, e.1 ≠ gr) → Hold w ((g, #[.slice A1 o.length c1, .slice Ap n cp], 26) :: K) (V.setCell ⟨gr, i, none⟩ u) := fun V i u hV hne =>
  ⟨hV.1.setCell (p := ⟨gr, i, none⟩) hbg _, fun e he => ⟨(Below.heap_setCell _ _ _ e.1 (hne e he)).trans (hV.2.1 e he).1, (hV.2.1 e he).2⟩, hV.2.2⟩
 have hne : ∀ e ∈ (g, #[.slice A1 o.length c1, .slice Ap n cp], 26) :: K, e.1 ≠ gr := fun e he => by
  refine hfar e (h.hold.2.1 e he).1 ?_
  rcases List.mem_cons.1 he with rfl | he
  ·exact hnP
  ·exact hK e he
 have hH1 := hset W (j * 2) (.int .i64 q.1) h.hold hne
 have hH2 := hset _ (j * 2 + 1) (.int .i64 q.2) hH1 hne
 have hout : ∀ a, A1 = some a → a.block ≠ gr := fun a ha => by
  have := hd.1 x hmem a ⟨gr, 0, none⟩ ha hA
  exact Nat.ne_of_lt this
 have hrow : Ap = none ∨ ∃ a, Ap = some a ∧ a.block ≠ gr := by
  cases hap : Ap with
  |none => exact .inl rfl
  |some a =>
   refine .inr ⟨a, rfl, fun hh => ?_⟩
   have hr := h.row.2
   rw [hap] at hr
   rcases hr.2 with ⟨e, -⟩ | ⟨g', cap', cur, e, hb, hh', -⟩
   ·cases e
   ·obtain ⟨e1, -, -⟩ := Value.slice.inj e
    have e2 := Option.some.inj e1
    rw [e2] at hh
    rw [show g' = gr from hh, hcs] at hh'
    have h1 := Option.some.inj hh'
    injection h1 with _ h2 _
    exact hnQ h2.symm
 have hrow' : ∀ a, Ap = some a → a.block ≠ gr := fun a ha => by
  rcases hrow with e | ⟨b, e, hb⟩
  ·rw [e] at ha; cases ha
  ·rw [e] at ha; rw [← Option.some.inj ha]; exact hb
 refine ⟨hH2, ⟨hH2.1, own_far (own_far h.out.2 hout _ _) hout _ _⟩, ⟨hH2.1, ?_⟩, fun z hz => ?_⟩
 ·have h1 := own_far (own_far h.row.2 hrow' (j * 2) (.int .i64 q.1)) hrow' (j * 2 + 1) (.int .i64 q.2)
  rw [List.length_set, set_enc hx (by unfold encV; rw [List.length_set])]
  exact h1
 ·obtain ⟨i, hi, e⟩ := List.getElem_of_mem hz
  rw [List.length_set] at hi
  rw [List.getElem_set] at e
  split at e
  ·subst e
   have h1 := h.rs x hmem
   rw [hA] at h1
   have h2 := own_set (i := j * 2 + 1) (own_set (i := j * 2) h1 (.int .i64 q.1)) (.int .i64 q.2)
   show World.ownsRow _ _ _ _ (.slice x.A (x.par.ring.set j q).length x.cap) (x.par.ring.set j q).length (flatP (x.par.ring.set j q))
   rw [hA, List.length_set, flatP_put2]
   exact h2
  ·rename_i hki
   subst e
   have hne2 : ∀ a, l[i].A = some a → a.block ≠ gr := fun a ha => hd.ne hi hk (fun e => hki e.symm) ha (by rw [hxe]; exact hA)
   exact own_far (own_far (h.rs _ (List.getElem_mem hi)) hne2 _ _) hne2 _ _
end Go.Proofs.Ytfjfmieadedjoaa

namespace Go.Proofs.Ytfjfmieadedjoaa
open Go.RowKit

def bmP (p q : Int × Int) (x : Par) : Par := ⟨x.id, repL x.ring p [q], x.own⟩
noncomputable def nmP (x : Par) : Par := ⟨x.id, nmL x.ring, x.own⟩
noncomputable def bmE (o : List (Int × Int)) (ps : List Par) (p q : Int × Int) : Int :=
 if chkQ o ps = false then 2 else if gd p = false ∨ gd q = false then 3 else if cB ps p = false then 5 else if p ∈ o then 10 else if cB ps q = true then 6 else if chkQ o (ps.map fun x => nmP (bmP p q x)) = false then 8 else 0
theorem bm_form {o : List (Int × Int)} {ps : List Par} {p q : Int × Int} (h1 : chkQ o ps = false) : bmE o ps p q = 2 := by unfold bmE; rw [if_pos h1]
theorem bm_range {o : List (Int × Int)} {ps : List Par} {p q : Int × Int} (h1 : chkQ o ps = true) (h2 : gd p = false ∨ gd q = false) : bmE o ps p q = 3 := by unfold bmE; rw [if_neg (by rw [h1]; decide), if_pos h2]
section
variable {o : List (Int × Int)} {ps : List Par} {p q : Int × Int} (h1 : chkQ o ps = true) (h2 : gd p = true) (h2' : gd q = true)
include h1 h2 h2'
theorem bm_none (h3 : cB ps p = false) : bmE o ps p q = 5 := by unfold bmE; rw [if_neg (by rw [h1]; decide), if_neg (by rw [h2, h2']; decide), if_pos h3]
theorem bm_outer (h3 : cB ps p = true) (h4 : p ∈ o) : bmE o ps p q = 10 := by unfold bmE; rw [if_neg (by rw [h1]; decide), if_neg (by rw [h2, h2']; decide), if_neg (by rw [h3]; decide), if_pos h4]
theorem bm_there (h3 : cB ps p = true) (h4 : p ∉ o) (h5 : cB ps q = true) : bmE o ps p q = 6 := by unfold bmE; rw [if_neg (by rw [h1]; decide), if_neg (by rw [h2, h2']; decide), if_neg (by rw [h3]; decide), if_neg h4, if_pos h5]
theorem bm_cross (h3 : cB ps p = true) (h4 : p ∉ o) (h5 : cB ps q = false) (h6 : chkQ o (ps.map fun x => nmP (bmP p q x)) = false) : bmE o ps p q = 8 := by unfold bmE; rw [if_neg (by rw [h1]; decide), if_neg (by rw [h2, h2']; decide), if_neg (by rw [h3]; decide), if_neg h4, if_neg (by rw [h5]; decide), if_pos h6]
theorem bm_ok (h3 : cB ps p = true) (h4 : p ∉ o) (h5 : cB ps q = false) (h6 : chkQ o (ps.map fun x => nmP (bmP p q x)) = true) : bmE o ps p q = 0 := by unfold bmE; rw [if_neg (by rw [h1]; decide), if_neg (by rw [h2, h2']; decide), if_neg (by rw [h3]; decide), if_neg h4, if_neg (by rw [h5]; decide), if_neg (by rw [h6]; decide)]
end
def MoveAt (w w' : World) (o : List (Int × Int)) (ps : List Par) (p q : Int × Int) (e : Ending) : Prop :=
 Below w.heap.size w w' ∧ ((bmE o ps p q ≠ 0 ∧ e = .returned (.tuple #[.agg #[.slice none 0 0, .slice none 0 0], .int .i64 (bmE o ps p q)])) ∨
  (bmE o ps p q = 0 ∧ ∃ A1 c1 Ap1 cp1 l', e = .returned (.tuple #[.agg #[.slice A1 o.length c1, .slice Ap1 l'.length cp1], .int .i64 0]) ∧ l'.map PV.par = ps.map (fun x => nmP (bmP p q x)) ∧ Row w (.slice A1 o.length c1) o w' ∧ RowI w 39 3 encV (.slice Ap1 l'.length cp1) l' w' ∧ OwnRs w l' w'))
theorem moveC_at (ps : List (Int × Int)) (A : Option Addr) (cap : Nat) (p q : Int × Int) (g g2 : Nat) (h3 : 3 ≤ ps.length) (hn : ps.length ≤ 1000) (hcap : ps.length ≤ cap) (w : World) (hr : Pts w w.heap.size A ps) (hc : w.heap[g]? = some (.cells #[.int .i64 p.1, .int .i64 p.2] 28 (0, 0))) (hc2 : w.heap[g2]? = some (.cells #[.int .i64 q.1, .int .i64 q.2] 28 (0, 0))) :
  Calls Try.prog 14 #[.slice A ps.length cap, .pointer (some ⟨g, 0, none⟩), .pointer (some ⟨g2, 0, none⟩)] w fun e w' => RingTo w w' (repL ps p [q]) e := by
 obtain ⟨ad, rfl, -, -⟩ := hr (by omega)
 exact moveC_any ps ad cap p q g g2 (by omega) hn hcap w hr (blk_cell hc 0) (blk_cell hc 1) (blk_cell hc2 0) (blk_cell hc2 1)
set_option maxRecDepth 100000 in
set_option maxHeartbeats 8000000 in
theorem Move_any (o : List (Int × Int)) (Ao : Option Addr) (co : Nat) (l : List PV) (Ap : Option Addr) (cp : Nat) (p q : Int × Int) (hl : l.length ≤ 1000000) (ho : o.length ≤ 8796093022208) (hown : ∀ x ∈ l, x.par.own.size ≤ maxLen) (w : World) (h : PlanAt w o Ao co l Ap cp) :
  Calls Try.prog 6 #[.agg #[.slice Ao o.length co, .slice Ap l.length cp], .agg #[.int .i64 p.1, .int .i64 p.2], .agg #[.int .i64 q.1, .int .i64 q.2]] w fun e w' => MoveAt w w' o (l.map PV.par) p q e := by
 have HCO := Lib.hid (fun (r : Int × Int) W (hb : Below w.heap.size w W) => Corner_any o Ao co l Ap cp r hl ho hown W (h.on hb))
 have HCT := Lib.hid (fun (h128 : o.length ≤ 128) W (hb : Below w.heap.size w W) => containsP_any o Ao co p (by omega) W ((h.on hb).out))
 have HPA := Lib.hid (fun W (hb : Below w.heap.size w W) => h.on hb)
 have HLL := Lib.hid hl
 have HOW := Lib.hid hown
 have HQ := ((((Hold.refl w).new #[.slice Ao o.length co, .slice Ap l.length cp] 26).new' #[.int .i64 p.1, .int .i64 p.2] 28 (n := w.heap.size + 1) (by simp)).new' #[.int .i64 q.1, .int .i64 q.2] 28 (n := w.heap.size + 1 + 1) (by simp)).new' #[.slice none 0 0, .slice none 0 0] 26 (n := w.heap.size + 1 + 1 + 1) (by simp)
 clear h hl ho hown
 go_enter Try.func6, Try.ntmps6
 go_upto_region 1 with (fail)
 generalize (World.alloc _ _) = W1 at HQ ⊢
 generalize w.heap.size + 1 + 1 + 1 = g6 at HQ ⊢
 generalize w.heap.size + 1 + 1 = g5 at HQ ⊢
 generalize w.heap.size + 1 = g4 at HQ ⊢
 obtain ⟨g3, hg3⟩ : ∃ g, w.heap.size = g := ⟨_, rfl⟩
 rw [hg3] at HQ ⊢
 have HQX := Lib.hid HQ
 have HG3 := Lib.hid hg3
 clear hg3
 obtain ⟨c0, c1⟩ := HQ.pt (.tail _ (.tail _ (.tail _ (.head _))))
 obtain ⟨d0, d1⟩ := HQ.pt (.tail _ (.tail _ (.head _)))
 clear HQ
 go_wp2_with fail
 go_at_call 11
 refine (HCO.out p _ HQX.out.1).mono ?_
 rintro e' W2 ⟨rfl, hB⟩
 have HQ2 := Lib.hid (HQX.out.on hB)
 clear hB c0 c1 d0 d1
 cases hcb : chkB o l
 ·rw [(cn_bad p hcb).1, (cn_bad p hcb).2]
  have HE := Lib.hid (bm_form (p := p) (q := q) ((chkQ_of o l).symm.trans hcb))
  clear hcb
  obtain ⟨y0, y1⟩ := HQ2.out.pt (.head _)
  obtain ⟨z0, z1⟩ := HQ2.out.fz (.head _)
  go_wp2
  have HE2 := HQ2.out.set2 (.slice none 0 0) (.slice none 0 0)
  obtain ⟨n0, n1⟩ := HE2.pt (.head _)
  refine bodyPost_ret (v := .tuple #[.agg #[.slice none 0 0, .slice none 0 0], .int .i64 2]) ?_ rfl ⟨HE2.1, .inl ⟨by rw [HE.out]; decide, by rw [HE.out]⟩⟩
  simp [results, Try.results6, go_sem, n0, n1]
 ·have HCB := Lib.hid ((chkQ_of o l).symm.trans hcb)
  cases hp : gd p
  ·rw [(cn_far hcb hp).1, (cn_far hcb hp).2]
   have HE := Lib.hid (bm_range (p := p) (q := q) HCB.out (.inl hp))
   clear hcb hp
   obtain ⟨y0, y1⟩ := HQ2.out.pt (.head _)
   obtain ⟨z0, z1⟩ := HQ2.out.fz (.head _)
   go_wp2
   have HE2 := HQ2.out.set2 (.slice none 0 0) (.slice none 0 0)
   obtain ⟨n0, n1⟩ := HE2.pt (.head _)
   refine bodyPost_ret (v := .tuple #[.agg #[.slice none 0 0, .slice none 0 0], .int .i64 3]) ?_ rfl ⟨HE2.1, .inl ⟨by rw [HE.out]; decide, by rw [HE.out]⟩⟩
   simp [results, Try.results6, go_sem, n0, n1]
  ·rw [(cn_good hcb hp).1, (cn_good hcb hp).2]
   have HGP := Lib.hid hp
   clear hp
   obtain ⟨bc, hbc⟩ : ∃ b, cornB l p = b := ⟨_, rfl⟩
   have HBC := Lib.hid ((cB_of l p).symm.trans hbc)
   rw [hbc]
   clear hbc
   obtain ⟨c0, c1⟩ := HQ2.out.pt (.tail _ (.tail _ (.tail _ (.head _))))
   obtain ⟨d0, d1⟩ := HQ2.out.pt (.tail _ (.head _))
   go_wp2_with fail
   go_at_call 11
   refine (HCO.out q _ HQ2.out.1).mono ?_
   rintro e' W3 ⟨rfl, hB⟩
   have HQ3 := HQ2.out.on hB
   clear hB c0 c1 d0 d1 HQ2
   have HQ2 := Lib.hid HQ3
   clear HQ3
   cases hq : gd q
   ·rw [(cn_far hcb hq).1, (cn_far hcb hq).2]
    have HE := Lib.hid (bm_range (p := p) (q := q) HCB.out (.inr hq))
    clear hcb hq
    obtain ⟨y0, y1⟩ := HQ2.out.pt (.head _)
    obtain ⟨z0, z1⟩ := HQ2.out.fz (.head _)
    go_wp2
    have HE2 := HQ2.out.set2 (.slice none 0 0) (.slice none 0 0)
    obtain ⟨n0, n1⟩ := HE2.pt (.head _)
    refine bodyPost_ret (v := .tuple #[.agg #[.slice none 0 0, .slice none 0 0], .int .i64 3]) ?_ rfl ⟨HE2.1, .inl ⟨by rw [HE.out]; decide, by rw [HE.out]⟩⟩
    simp [results, Try.results6, go_sem, n0, n1]
   ·rw [(cn_good hcb hq).1, (cn_good hcb hq).2]
    have HGQ := Lib.hid hq
    have HPQ : Hid (PlanQ o (l.map PV.par)) := chkB_plan.1 hcb
    obtain ⟨bq, hbq⟩ : ∃ b, cornB l q = b := ⟨_, rfl⟩
    have HBQ := Lib.hid ((cB_of l q).symm.trans hbq)
    rw [hbq]
    clear hcb hq hbq
    cases bc
    ·have HE := Lib.hid (bm_none HCB.out HGP.out HGQ.out HBC.out)
     obtain ⟨y0, y1⟩ := HQ2.out.pt (.head _)
     obtain ⟨z0, z1⟩ := HQ2.out.fz (.head _)
     go_wp2
     have HE2 := HQ2.out.set2 (.slice none 0 0) (.slice none 0 0)
     obtain ⟨n0, n1⟩ := HE2.pt (.head _)
     refine bodyPost_ret (v := .tuple #[.agg #[.slice none 0 0, .slice none 0 0], .int .i64 5]) ?_ rfl ⟨HE2.1, .inl ⟨by rw [HE.out]; decide, by rw [HE.out]⟩⟩
     simp [results, Try.results6, go_sem, n0, n1]
    ·obtain ⟨c0, c1⟩ := HQ2.out.pt (.tail _ (.tail _ (.tail _ (.head _))))
     obtain ⟨d0, d1⟩ := HQ2.out.pt (.tail _ (.tail _ (.head _)))
     go_wp2_with fail
     go_at_call 12
     refine (HCT.out HPQ.out.outP.2.2 _ HQ2.out.1).mono ?_
     rintro e' W4 ⟨rfl, hB⟩
     have HQ4 := HQ2.out.on hB
     clear hB c0 c1 d0 d1 HQ2
     have HQ2 := Lib.hid HQ4
     clear HQ4
     by_cases hmo : p ∈ o
     ·rw [decide_eq_true hmo]
      have HE := Lib.hid (bm_outer HCB.out HGP.out HGQ.out HBC.out hmo)
      clear hmo
      obtain ⟨y0, y1⟩ := HQ2.out.pt (.head _)
      obtain ⟨z0, z1⟩ := HQ2.out.fz (.head _)
      go_wp2
      have HE2 := HQ2.out.set2 (.slice none 0 0) (.slice none 0 0)
      obtain ⟨n0, n1⟩ := HE2.pt (.head _)
      refine bodyPost_ret (v := .tuple #[.agg #[.slice none 0 0, .slice none 0 0], .int .i64 10]) ?_ rfl ⟨HE2.1, .inl ⟨by rw [HE.out]; decide, by rw [HE.out]⟩⟩
      simp [results, Try.results6, go_sem, n0, n1]
     ·rw [decide_eq_false hmo]
      have HMO := Lib.hid hmo
      clear hmo
      cases bq
      ·have hP2 := HPA.out _ HQ2.out.1
       have hc4 := (HQ2.out.2.1 _ (.tail _ (.tail _ (.head _)))).1
       have hc5 := (HQ2.out.2.1 _ (.tail _ (.head _))).1
       have hoP := HPQ.out.outP
       have hring : ∀ x ∈ l, Sound x.par.ring ∧ gdL x.par.ring = true ∧ x.par.ring.length ≤ 128 := fun x hx => HPQ.out.ringP (List.mem_map_of_mem hx)
       have hlen : ∀ r : List (Int × Int), r.length ≤ 128 → (nmL (repL r p [q])).length ≤ 1000 ∧ (repL r p [q]).length ≤ maxLen := fun r hr => by
        have a := repL_len r [q] p
        have b := nm_le (repL r p [q])
        simp only [List.length_cons, List.length_nil] at a
        exact ⟨by omega, by unfold maxLen; omega⟩
       have h64 := HPQ.out.fine.2.2.2.1
       rw [List.length_map] at h64
       have hoo : nmL (repL o p [q]) = o := by
        rw [repL_out HMO.out]
        exact nm_nrm (normP_iff.1 HPQ.out.out).1 (normP_iff.1 HPQ.out.out).2
       have HAN := Lib.hid (anewV_any o Ao co l Ap cp (fun r => repL r p [q]) o hoo g4 g5 h64 ⟨by omega, (hlen o hoP.2.2).2⟩ (fun x hx => ⟨(hlen _ (hring x hx).2.2).1, HOW.out x hx, (hlen _ (hring x hx).2.2).2⟩) _ hP2
        (fun W hb => moveC_at o Ao co p q g4 g5 hoP.1.1 (by omega) hP2.caps.1 W (hP2.out.on hb) ((hb.block _ (blk_lt hc4)).trans hc4) ((hb.block _ (blk_lt hc5)).trans hc5))
        (fun x hx W hb => moveC_at x.par.ring x.A x.cap p q g4 g5 (hring x hx).1.1 (by have := (hring x hx).2.2; omega) (hP2.caps.2 x hx) W ((hP2.prs.2 x hx).1.on hb) ((hb.block _ (blk_lt hc4)).trans hc4) ((hb.block _ (blk_lt hc5)).trans hc5)))
       have emap : (l.map (parB fun r => repL r p [q])) = (l.map PV.par).map fun x => nmP (bmP p q x) := by rw [List.map_map]; rfl
       rw [emap] at HAN
       clear hP2 hc4 hc5 hoP hring hlen h64 hoo emap
       obtain ⟨c0, c1⟩ := HQ2.out.pt (.tail _ (.tail _ (.tail _ (.head _))))
       go_wp2_with fail
       go_at_call 13
       refine HAN.out.mono ?_
       rintro e' W5 ⟨hB, hd⟩
       have HQ5 := HQ2.out.on hB
       have hB0 := HQ2.out.1
       clear c0 c1 HAN
       rcases hd with ⟨hc, rfl⟩ | ⟨hc, A1, c1, Ap1, cp1, l', rfl, hm, h1, h2, h3⟩
       ·have HE := Lib.hid (bm_cross HCB.out HGP.out HGQ.out HBC.out HMO.out HBQ.out hc)
        clear hc hB hB0 HQ2
        have HQ2 := Lib.hid HQ5
        clear HQ5
        obtain ⟨y0, y1⟩ := HQ2.out.pt (.head _)
        obtain ⟨z0, z1⟩ := HQ2.out.fz (.head _)
        go_wp2
        have HE2 := HQ2.out.set2 (.slice none 0 0) (.slice none 0 0)
        obtain ⟨n0, n1⟩ := HE2.pt (.head _)
        refine bodyPost_ret (v := .tuple #[.agg #[.slice none 0 0, .slice none 0 0], .int .i64 8]) ?_ rfl ⟨HE2.1, .inl ⟨by rw [HE.out]; decide, by rw [HE.out]⟩⟩
        simp [results, Try.results6, go_sem, n0, n1]
       ·have HE := Lib.hid (bm_ok HCB.out HGP.out HGQ.out HBC.out HMO.out HBQ.out hc)
        have hog := Og.mkSet HQ5 (h1.base hB0) (RowI.base h2 hB0) (OwnRs.base h3 hB0)
        have HOG := Lib.hid hog
        have HM := Lib.hid hm
        obtain ⟨y0, y1⟩ := HQ5.pt (.head _)
        obtain ⟨z0, z1⟩ := HQ5.fz (.head _)
        clear hc hB hB0 hog hm h1 h2 h3 HQ5
        go_wp2
        obtain ⟨n0, n1⟩ := HOG.out.hold.pt (.head _)
        refine bodyPost_ret (v := .tuple #[.agg #[.slice A1 o.length c1, .slice Ap1 l'.length cp1], .int .i64 0]) ?_ rfl ⟨HOG.out.hold.1, .inr ⟨HE.out, A1, c1, Ap1, cp1, l', rfl, HM.out, HOG.out.out, HOG.out.row, HOG.out.rs⟩⟩
        simp [results, Try.results6, go_sem, n0, n1]
      ·have HE := Lib.hid (bm_there HCB.out HGP.out HGQ.out HBC.out HMO.out HBQ.out)
       obtain ⟨y0, y1⟩ := HQ2.out.pt (.head _)
       obtain ⟨z0, z1⟩ := HQ2.out.fz (.head _)
       go_wp2
       have HE2 := HQ2.out.set2 (.slice none 0 0) (.slice none 0 0)
       obtain ⟨n0, n1⟩ := HE2.pt (.head _)
       refine bodyPost_ret (v := .tuple #[.agg #[.slice none 0 0, .slice none 0 0], .int .i64 6]) ?_ rfl ⟨HE2.1, .inl ⟨by rw [HE.out]; decide, by rw [HE.out]⟩⟩
       simp [results, Try.results6, go_sem, n0, n1]
end Go.Proofs.Ytfjfmieadedjoaa

namespace Go.Proofs.Ytfjfmieadedjoaa
open Go.RowKit
theorem ch_least {r : List (Int × Int)} (h : chE (lstR r) = 0) : chE r = 0 := by
 by_cases h0 : r.length = 0
 ·have e : r = [] := List.eq_nil_of_length_eq_zero h0
  subst e
  exact h
 ·have hx := begins (r := r) (s := lstR r) (leastI r r.length) (rotL_length _ _) (fun i => nx_rotL _ _ _ (by omega))
  rw [chE_zero] at h ⊢
  refine ⟨?_, hx.2.1.1 h.2⟩
  obtain ⟨a1, a2⟩ := arE_zero.1 h.1
  have hl : (lstR r).length = r.length := rotL_length _ _
  refine arE_zero.2 ⟨by omega, gdL_iff.2 fun p hp => ?_⟩
  obtain ⟨i, hi, e⟩ := List.getElem_of_mem hp
  obtain ⟨j, hj⟩ : ∃ j, nx (lstR r) j = nx r i := by
   refine ⟨i + (r.length - leastI r r.length), ?_⟩
   unfold lstR
   rw [nx_rotL _ _ _ (by omega)]
   have := leastI_le r r.length
   rw [show i + (r.length - leastI r r.length) + leastI r r.length = i + r.length by omega, nx_per]
  rw [← e, ← nx_lt hi, ← hj]
  exact gdL_iff.1 a2 _ (nx_memC (by omega) j)
theorem rep_set {r : List (Int × Int)} {p : Int × Int} (q : Int × Int) (h : p ∈ r) : repL r p [q] = r.set (posL r p) q := by
 rw [repL_in h]
 have hk := posL_lt h
 rw [List.set_eq_take_append_cons_drop, if_pos hk]
 simp
theorem move_same (o : List (Int × Int)) (ps : List Par) (p q : Int × Int) : chkQ o ((ps.map (bmP p q)).map lsP) = chkQ o (ps.map fun x => nmP (bmP p q x)) ∧ (chkQ o ((ps.map (bmP p q)).map lsP) = true → ((ps.map (bmP p q)).map lsP) = ps.map fun x => nmP (bmP p q x)) := by
 by_cases hall : ∀ x ∈ ps, chE (repL x.ring p [q]) = 0
 ·have e : ((ps.map (bmP p q)).map lsP) = ps.map fun x => nmP (bmP p q x) := by
   rw [List.map_map]
   refine List.map_congr_left fun x hx => ?_
   show lsP (bmP p q x) = nmP (bmP p q x)
   unfold lsP nmP bmP
   rw [nmL_eq (hall x hx)]
   rfl
  rw [e]
  exact ⟨rfl, fun _ => rfl⟩
 ·have f1 : chkQ o ((ps.map (bmP p q)).map lsP) = false := by
   cases hc : chkQ o ((ps.map (bmP p q)).map lsP)
   ·rfl
   ·have hQ := (chkQ_iff _ _).1 hc
    exact absurd (fun x hx => ch_least (normP_iff.1 (hQ.each _ (List.mem_map_of_mem (List.mem_map_of_mem hx)))).1) hall
  have f2 : chkQ o (ps.map fun x => nmP (bmP p q x)) = false := by
   cases hc : chkQ o (ps.map fun x => nmP (bmP p q x))
   ·rfl
   ·have hQ := (chkQ_iff _ _).1 hc
    exact absurd (fun x hx => nm_sound (hQ.each _ (List.mem_map_of_mem hx))) hall
  rw [f1, f2]
  exact ⟨rfl, fun h => by cases h⟩
theorem bm_out {x : Par} {p q : Int × Int} (h : p ∉ x.ring) : bmP p q x = x := by
 unfold bmP
 rw [repL_out h]
theorem part_step {α : Type} (f : α → α) (ps : List α) {k : Nat} (hk : k < ps.length) : (ps.take k).map f ++ ps.drop k = ((ps.take k).map f ++ [ps[k]]) ++ ps.drop (k + 1) := by
 rw [List.drop_eq_getElem_cons hk]
 simp
theorem part_next {α : Type} (f : α → α) (ps : List α) {k : Nat} (hk : k < ps.length) : (ps.take (k + 1)).map f ++ ps.drop (k + 1) = ((ps.take k).map f ++ [f ps[k]]) ++ ps.drop (k + 1) := by
 rw [List.take_succ_eq_append_getElem hk, List.map_append]
 rfl
theorem part_get {α : Type} (f : α → α) (ps : List α) {k : Nat} (hk : k < ps.length) : ((ps.take k).map f ++ ps.drop k)[k]? = some ps[k] := by
 rw [List.getElem?_append_right (by simp; omega), List.length_map, List.length_take, Nat.min_eq_left (by omega), Nat.sub_self, List.getElem?_drop, Nat.add_zero, List.getElem?_eq_getElem hk]
theorem part_set {α : Type} (f : α → α) (ps : List α) {k : Nat} (hk : k < ps.length) : ((ps.take k).map f ++ ps.drop k).set k (f ps[k]) = (ps.take (k + 1)).map f ++ ps.drop (k + 1) := by
 rw [part_next f ps hk, List.set_append_right _ _ (by simp; omega), List.length_map, List.length_take, Nat.min_eq_left (by omega), Nat.sub_self, List.drop_eq_getElem_cons hk, List.set_cons_zero]
 simp
end Go.Proofs.Ytfjfmieadedjoaa

namespace Go.Proofs.Ytfjfmieadedjoaa
open Go.RowKit
noncomputable def mvO (o : List (Int × Int)) (ps : List Par) (p q : Int × Int) : List (Int × Int) := if bmE o ps p q = 0 then o else []
noncomputable def mvQ (o : List (Int × Int)) (ps : List Par) (p q : Int × Int) : List Par := if bmE o ps p q = 0 then ps.map (fun x => nmP (bmP p q x)) else []
theorem MoveAt.ans {w w' : World} {o : List (Int × Int)} {ps : List Par} {p q : Int × Int} {e : Ending} (h : MoveAt w w' o ps p q e) : MkAns w w' (mvO o ps p q) (mvQ o ps p q) (bmE o ps p q) e := by
 obtain ⟨hB, ⟨hne, rfl⟩ | ⟨hz, A1, c1, Ap1, cp1, l1, rfl, hm, h1, h2, h3⟩⟩ := h
 ·have e1 : mvO o ps p q = [] := if_neg hne
  have e2 : mvQ o ps p q = [] := if_neg hne
  rw [e1, e2]
  exact ⟨hB, none, 0, [], none, 0, rfl, rfl, ⟨hB, World.ownsRow_nil _ _ _ _⟩, RowI.nil hB, fun x hx => nomatch hx⟩
 ·have e1 : mvO o ps p q = o := if_pos hz
  have e2 : mvQ o ps p q = ps.map (fun x => nmP (bmP p q x)) := if_pos hz
  rw [e1, e2, hz]
  exact ⟨hB, A1, c1, l1, Ap1, cp1, rfl, hm, h1, h2, h3⟩
theorem bm_sound {o : List (Int × Int)} {ps : List Par} {p q : Int × Int} (h : bmE o ps p q = 0) : PlanQ o (ps.map fun x => nmP (bmP p q x)) := by
 unfold bmE at h
 split at h
 ·cases h
 ·split at h
  ·cases h
  ·split at h
   ·cases h
   ·split at h
    ·cases h
    ·split at h
     ·cases h
     ·split at h
      ·cases h
      ·rename_i h6
       exact (chkQ_iff _ _).1 ((Bool.not_eq_false _).mp h6)
theorem mv_small (o : List (Int × Int)) (ps : List Par) (p q : Int × Int) : (mvO o ps p q).length ≤ 128 ∧ (mvQ o ps p q).length ≤ 64 := by
 unfold mvO mvQ
 by_cases h : bmE o ps p q = 0
 ·rw [if_pos h, if_pos h]
  exact ⟨(bm_sound h).outP.2.2, (bm_sound h).fine.2.2.2.1⟩
 ·rw [if_neg h, if_neg h]
  exact ⟨Nat.zero_le _, Nat.zero_le _⟩
theorem mv_rings {o : List (Int × Int)} {ps : List Par} {p q : Int × Int} {l2 : List PV} (hm : l2.map PV.par = mvQ o ps p q) : ∀ x ∈ l2, x.par.ring.length ≤ 1000 := fun x hx => by
 have hx2 : x.par ∈ mvQ o ps p q := by rw [← hm]; exact List.mem_map_of_mem hx
 unfold mvQ at hx2
 split at hx2
 ·rename_i h
  have := ((bm_sound h).ringP hx2).2.2
  omega
 ·cases hx2
end Go.Proofs.Ytfjfmieadedjoaa

namespace Go.Proofs.Ytfjfmieadedjoaa
open Go.RowKit
def pvR (r : List (Int × Int)) (p : Int × Int) : Int × Int := nx r (posL r p + r.length - 1)
def scR (r : List (Int × Int)) (p : Int × Int) : Int × Int := nx r (posL r p + 1)
def bsR (r : List (Int × Int)) (p : Int × Int) : (Int × Int) × (Int × Int) := (pvR r p, scR r p)
theorem pos_nx {r : List (Int × Int)} {p : Int × Int} (h : p ∈ r) : nx r (posL r p) = p := by
 have hk := posL_lt h
 have h1 := (posL_at h).1
 rw [List.getElem?_eq_getElem hk] at h1
 rw [nx_lt hk]
 exact Option.some.inj h1
theorem nx_next (r : List (Int × Int)) (m : Nat) : nx r (m % r.length + 1) = nx r (m + 1) := by
 unfold nx
 rw [Nat.mod_add_mod]
theorem pv_edge {r : List (Int × Int)} {p : Int × Int} (h : p ∈ r) : (pvR r p, p) ∈ edg r := by
 have hk := posL_lt h
 refine mem_edg.2 ⟨(posL r p + r.length - 1) % r.length, Nat.mod_lt _ (by omega), ?_⟩
 rw [nx_next, nx_mod, show posL r p + r.length - 1 + 1 = posL r p + r.length by omega, nx_per, pos_nx h]
 rfl
theorem sc_edge {r : List (Int × Int)} {p : Int × Int} (h : p ∈ r) : (p, scR r p) ∈ edg r := by
 refine mem_edg.2 ⟨posL r p, posL_lt h, ?_⟩
 rw [pos_nx h]
 rfl
theorem edge_sc {r : List (Int × Int)} {p b : Int × Int} (hs : Sound r) (h : (p, b) ∈ edg r) : p ∈ r ∧ b = scR r p := by
 obtain ⟨i, hi, e⟩ := mem_edg.1 h
 obtain ⟨e1, e2⟩ := Prod.ext_iff.1 e
 have hm : p ∈ r := by rw [show p = nx r i from e1]; exact nx_memC (by omega) i
 have : posL r p = i := nx_inj hs (posL_lt hm) hi (by rw [pos_nx hm]; exact e1)
 refine ⟨hm, ?_⟩
 unfold scR
 rw [this]
 exact e2
theorem edge_pv {r : List (Int × Int)} {p a : Int × Int} (hs : Sound r) (h : (a, p) ∈ edg r) : p ∈ r ∧ a = pvR r p := by
 obtain ⟨i, hi, e⟩ := mem_edg.1 h
 obtain ⟨e1, e2⟩ := Prod.ext_iff.1 e
 have hm : p ∈ r := by rw [show p = nx r (i + 1) from e2]; exact nx_memC (by omega) _
 have hk := posL_lt hm
 have : posL r p = (i + 1) % r.length := nx_inj hs hk (Nat.mod_lt _ (by omega)) (by rw [pos_nx hm, nx_mod]; exact e2)
 refine ⟨hm, ?_⟩
 unfold pvR
 rw [this]
 by_cases h1 : i + 1 = r.length
 ·rw [h1, Nat.mod_self, show 0 + r.length - 1 = i by omega]
  exact e1
 ·rw [Nat.mod_eq_of_lt (by omega), show i + 1 + r.length - 1 = i + r.length by omega, nx_per]
  exact e1
theorem pv_sc {r : List (Int × Int)} {p : Int × Int} (hs : Sound r) (h : p ∈ r) : pvR r p ≠ scR r p := fun e => by
 have h1 := pv_edge h
 rw [e] at h1
 exact edg_way hs (sc_edge h) h1
def spnS (p : Int × Int) (acc : List ((Int × Int) × (Int × Int))) (r : List (Int × Int)) : List ((Int × Int) × (Int × Int)) :=
 if p ∈ r then (if bk (bsR r p) ∈ acc then acc else acc ++ [bsR r p]) else acc
def spnL (L : List (List (Int × Int))) (p : Int × Int) : List ((Int × Int) × (Int × Int)) := L.foldl (spnS p) []
def idlB (L : List (List (Int × Int))) (p : Int × Int) : Bool := onB ((spnL L p).getD 0 ((0, 0), (0, 0))).1 ((spnL L p).getD 0 ((0, 0), (0, 0))).2 p && decide ((spnL L p).length = 1)
def docI (L : List (List (Int × Int))) (p : Int × Int) : Prop := ∀ r ∈ L, ∀ s ∈ L, p ∈ r → p ∈ s → onB (pvR r p) (scR r p) p = true ∧ (bsR r p = bsR s p ∨ bsR r p = bk (bsR s p))
theorem spn_keep (p : Int × Int) : ∀ (L : List (List (Int × Int))) (acc : List ((Int × Int) × (Int × Int))), (∃ t, L.foldl (spnS p) acc = acc ++ t) ∧ ∀ r ∈ L, p ∈ r → bsR r p ∈ L.foldl (spnS p) acc ∨ bk (bsR r p) ∈ L.foldl (spnS p) acc
 |[], acc => ⟨⟨[], by simp⟩, fun _ h => nomatch h⟩
 |r :: L, acc => by
  obtain ⟨⟨t, h1⟩, h2⟩ := spn_keep p L (spnS p acc r)
  have hs : ∃ u, spnS p acc r = acc ++ u := by
   unfold spnS
   split
   ·split
    ·exact ⟨[], by simp⟩
    ·exact ⟨[bsR r p], rfl⟩
   ·exact ⟨[], by simp⟩
  obtain ⟨u, hu⟩ := hs
  rw [List.foldl_cons]
  refine ⟨⟨u ++ t, by rw [h1, hu, List.append_assoc]⟩, fun s hs hp => ?_⟩
  rcases List.mem_cons.1 hs with rfl | hs
  ·rw [h1]
   have : bsR s p ∈ spnS p acc s ∨ bk (bsR s p) ∈ spnS p acc s := by
    unfold spnS
    rw [if_pos hp]
    split
    ·rename_i h; exact .inr h
    ·exact .inl (by simp)
   rcases this with h | h
   ·exact .inl (List.mem_append_left _ h)
   ·exact .inr (List.mem_append_left _ h)
  ·exact h2 s hs hp
theorem spn_out (p : Int × Int) : ∀ (L : List (List (Int × Int))) (acc : List ((Int × Int) × (Int × Int))), (∀ r ∈ L, p ∉ r) → L.foldl (spnS p) acc = acc
 |[], _, _ => rfl
 |r :: L, acc, h => by
  rw [List.foldl_cons, show spnS p acc r = acc from if_neg (h r List.mem_cons_self)]
  exact spn_out p L acc fun s hs => h s (List.mem_cons_of_mem _ hs)
theorem spn_same (p : Int × Int) (e : (Int × Int) × (Int × Int)) : ∀ (L : List (List (Int × Int))), (∀ r ∈ L, p ∈ r → bsR r p = bk e) → L.foldl (spnS p) [e] = [e]
 |[], _ => rfl
 |r :: L, h => by
  have : spnS p [e] r = [e] := by
   unfold spnS
   split
   ·rename_i hp
    rw [if_pos]
    rw [h r List.mem_cons_self hp]
    show bk (bk e) ∈ [e]
    simp [bk]
   ·rfl
  rw [List.foldl_cons, this]
  exact spn_same p e L fun s hs => h s (List.mem_cons_of_mem _ hs)
theorem first_in (p : Int × Int) : ∀ {L : List (List (Int × Int))}, (∃ r ∈ L, p ∈ r) → ∃ L1 r L2, L = L1 ++ r :: L2 ∧ p ∈ r ∧ ∀ s ∈ L1, p ∉ s
 |[], h => by obtain ⟨_, h, _⟩ := h; cases h
 |r :: L, h => by
  by_cases hp : p ∈ r
  ·exact ⟨[], r, L, rfl, hp, fun _ h => nomatch h⟩
  ·obtain ⟨s, hs, hps⟩ := h
   rcases List.mem_cons.1 hs with rfl | hs
   ·exact absurd hps hp
   ·obtain ⟨L1, t, L2, rfl, ht, h1⟩ := first_in p ⟨s, hs, hps⟩
    exact ⟨r :: L1, t, L2, rfl, ht, fun u hu => by
     rcases List.mem_cons.1 hu with rfl | hu
     ·exact hp
     ·exact h1 u hu⟩
theorem idle_doc {o : List (Int × Int)} {L : List (List (Int × Int))} {p : Int × Int} (hF : Fit o L) (hc : ∃ r ∈ L, p ∈ r) : idlB L p = true ↔ docI (o :: L) p := by
 unfold idlB
 rw [Bool.and_eq_true, decide_eq_true_eq]
 constructor
 ·rintro ⟨hon, hlen⟩
  obtain ⟨s, hs⟩ := List.length_eq_one_iff.1 hlen
  rw [hs] at hon
  have hon : onB s.1 s.2 p = true := hon
  have hin : ∀ r ∈ L, p ∈ r → bsR r p = s ∨ bsR r p = bk s := fun r hr hp => by
   have := (spn_keep p L []).2 r hr hp
   rw [show L.foldl (spnS p) [] = [s] from hs, List.mem_singleton, List.mem_singleton] at this
   rcases this with h | h
   ·exact .inl h
   ·right; rw [← h]; rfl
  have hall : ∀ r ∈ o :: L, p ∈ r → bsR r p = s ∨ bsR r p = bk s := fun r hr hp => by
   rcases List.mem_cons.1 hr with rfl | hr
   ·obtain ⟨r1, hr1, e1⟩ := mem_edgs.1 (hF.out _ (pv_edge hp))
    obtain ⟨r2, hr2, e2⟩ := mem_edgs.1 (hF.out _ (sc_edge hp))
    obtain ⟨p1, q1⟩ := edge_pv (hF.each _ hr1) e1
    obtain ⟨p2, q2⟩ := edge_sc (hF.each _ hr2) e2
    have hne := pv_sc hF.outer hp
    have h1 := hin r1 hr1 p1
    have h2 := hin r2 hr2 p2
    unfold bsR at h1 h2 ⊢
    rw [← q1] at h1
    rw [← q2] at h2
    have g1 : pvR r p = s.1 ∨ pvR r p = s.2 := by
     rcases h1 with h | h
     ·exact .inl (congrArg Prod.fst h)
     ·exact .inr (congrArg Prod.fst h)
    rcases h1 with h1 | h1 <;> rcases h2 with h2 | h2
    ·left
     rw [show pvR r p = s.1 from congrArg Prod.fst h1, show scR r p = s.2 from congrArg Prod.snd h2]
    ·exact absurd ((show pvR r p = s.1 from congrArg Prod.fst h1).trans (show scR r p = s.1 from congrArg Prod.snd h2).symm) hne
    ·exact absurd ((show pvR r p = s.2 from congrArg Prod.fst h1).trans (show scR r p = s.2 from congrArg Prod.snd h2).symm) hne
    ·right
     rw [show pvR r p = s.2 from congrArg Prod.fst h1, show scR r p = s.1 from congrArg Prod.snd h2]
     rfl
   ·exact hin r hr hp
  intro r hr t ht hpr hpt
  have a1 := hall r hr hpr
  have a2 := hall t ht hpt
  refine ⟨?_, ?_⟩
  ·rcases a1 with h | h
   ·rw [show pvR r p = s.1 from congrArg Prod.fst h, show scR r p = s.2 from congrArg Prod.snd h]
    exact hon
   ·rw [show pvR r p = s.2 from congrArg Prod.fst h, show scR r p = s.1 from congrArg Prod.snd h]
    exact onB_iff.2 (on_turn.2 (onB_iff.1 hon))
  ·rcases a1 with h | h <;> rcases a2 with h' | h' <;> rw [h, h']
   ·exact .inl rfl
   ·exact .inr rfl
   ·exact .inr rfl
   ·exact .inl rfl
 ·intro hd
  obtain ⟨L1, r0, L2, rfl, h0, h1⟩ := first_in p hc
  have hmem : r0 ∈ L1 ++ r0 :: L2 := by simp
  have key : ∀ r ∈ L2, p ∈ r → bsR r p = bk (bsR r0 p) := fun r hr hp => by
   rcases (hd r (List.mem_cons_of_mem _ (by simp [hr])) r0 (List.mem_cons_of_mem _ hmem) hp h0).2 with h | h
   ·exfalso
    have hn := hF.once
    unfold edgs at hn
    rw [List.flatMap_append, List.flatMap_cons] at hn
    have hn2 := (List.nodup_append.1 hn).2.1
    have hx := (List.nodup_append.1 hn2).2.2 (pvR r0 p, p) (pv_edge h0) (pvR r0 p, p) (List.mem_flatMap.2 ⟨r, hr, by
     rw [← show pvR r p = pvR r0 p from congrArg Prod.fst h]
     exact pv_edge hp⟩)
    exact hx rfl
   ·exact h
  have hsp : spnL (L1 ++ r0 :: L2) p = [bsR r0 p] := by
   unfold spnL
   rw [List.foldl_append, spn_out p L1 [] h1, List.foldl_cons]
   have : spnS p [] r0 = [bsR r0 p] := by unfold spnS; rw [if_pos h0, if_neg (by simp)]; rfl
   rw [this]
   exact spn_same p _ L2 key
  rw [hsp]
  exact ⟨(hd r0 (List.mem_cons_of_mem _ hmem) r0 (List.mem_cons_of_mem _ hmem) h0 h0).1, rfl⟩
def clP (p : Int × Int) (x : Par) : Par := ⟨x.id, repL x.ring p [], x.own⟩
theorem clear_same (o : List (Int × Int)) (ps : List Par) (p : Int × Int) : chkQ (lsR (repL o p [])) ((ps.map (clP p)).map lsP) = chkQ (nmL (repL o p [])) (ps.map fun x => nmP (clP p x)) ∧ (chkQ (lsR (repL o p [])) ((ps.map (clP p)).map lsP) = true → lsR (repL o p []) = nmL (repL o p []) ∧ ((ps.map (clP p)).map lsP) = ps.map fun x => nmP (clP p x)) := by
 by_cases hall : chE (repL o p []) = 0 ∧ ∀ x ∈ ps, chE (repL x.ring p []) = 0
 ·have e : ((ps.map (clP p)).map lsP) = ps.map fun x => nmP (clP p x) := by
   rw [List.map_map]
   refine List.map_congr_left fun x hx => ?_
   show lsP (clP p x) = nmP (clP p x)
   unfold lsP nmP clP
   rw [nmL_eq (hall.2 x hx)]
   rfl
  have e2 : lsR (repL o p []) = nmL (repL o p []) := by rw [nmL_eq hall.1]; rfl
  rw [e, e2]
  exact ⟨rfl, fun _ => ⟨rfl, rfl⟩⟩
 ·have f1 : chkQ (lsR (repL o p [])) ((ps.map (clP p)).map lsP) = false := by
   cases hc : chkQ (lsR (repL o p [])) ((ps.map (clP p)).map lsP)
   ·rfl
   ·have hQ := (chkQ_iff _ _).1 hc
    exact absurd ⟨ch_least (normP_iff.1 hQ.out).1, fun x hx => ch_least (normP_iff.1 (hQ.each _ (List.mem_map_of_mem (List.mem_map_of_mem hx)))).1⟩ hall
  have f2 : chkQ (nmL (repL o p [])) (ps.map fun x => nmP (clP p x)) = false := by
   cases hc : chkQ (nmL (repL o p [])) (ps.map fun x => nmP (clP p x))
   ·rfl
   ·have hQ := (chkQ_iff _ _).1 hc
    exact absurd ⟨nm_sound hQ.out, fun x hx => nm_sound (hQ.each _ (List.mem_map_of_mem hx))⟩ hall
  rw [f1, f2]
  exact ⟨rfl, fun h => by cases h⟩
end Go.Proofs.Ytfjfmieadedjoaa

namespace Go.Proofs.Ytfjfmieadedjoaa
open Go.RowKit
theorem prev_place {i n : Nat} (hi : i < n) : ∃ j : Nat, j < n ∧ (i + n - 1) % n = j ∧ ((i : Int) + (n : Int) - 1) % (n : Int) = (j : Int) ∧ ((i : Int) + (n : Int) - 1).tmod (n : Int) = (j : Int) := by
 have e : ((i : Int) + (n : Int) - 1) = ((i + n - 1 : Nat) : Int) := by omega
 refine ⟨(i + n - 1) % n, Nat.mod_lt _ (by omega), rfl, ?_, ?_⟩
 ·rw [e, Int.natCast_emod]
 ·rw [e, Int.tmod_eq_emod_of_nonneg (by omega), Int.natCast_emod]
theorem spn_len (p : Int × Int) : ∀ (L : List (List (Int × Int))) (acc : List ((Int × Int) × (Int × Int))), (L.foldl (spnS p) acc).length ≤ acc.length + L.length
 |[], acc => by simp
 |r :: L, acc => by
  have h := spn_len p L (spnS p acc r)
  have h2 : (spnS p acc r).length ≤ acc.length + 1 := by
   unfold spnS
   split
   ·split
    ·omega
    ·simp
   ·omega
  rw [List.foldl_cons, List.length_cons]
  omega
set_option maxRecDepth 100000 in
set_option maxHeartbeats 4000000 in
theorem spans_any (l : List PV) (Ap : Option Addr) (cp : Nat) (p : Int × Int) (hl : l.length ≤ 100000) (hsm : ∀ x ∈ l, x.par.ring.length ≤ 1000) (w : World) (hr : Prs w Ap l) :
  Calls Try.prog 32 #[.slice Ap l.length cp, .agg #[.int .i64 p.1, .int .i64 p.2]] w fun e w' => ∃ v, e = .returned v ∧ RowI w 50 4 encG v (spnL (l.map fun x => x.par.ring) p) w' := by
 have HR := Lib.hid (fun W (hb : Below w.heap.size w W) => hr.on hb)
 have HQ := (Hold.refl w).new #[.int .i64 p.1, .int .i64 p.2] 28
 clear hr
 go_enter Try.func32, Try.ntmps32
 go_upto_region 1 with (fail)
 generalize (World.alloc _ _) = W1 at HQ ⊢
 generalize w.heap.size = g3 at HQ ⊢
 have HQ1 := Lib.hid HQ
 have HV0 : RowI W1 50 4 encG (.slice none 0 0) (((l.map fun x => x.par.ring).take 0).foldl (spnS p) []) W1 := RowI.nil (Below.refl _ _)
 clear HQ
 go_wp2_with fail
 go_loopg [5, 14] l.length (fun g v i wr => ∃ k : Nat, k ≤ l.length ∧ g = l.length - k ∧ i = .int .i64 k ∧ RowI W1 50 4 encG v (((l.map fun x => x.par.ring).take k).foldl (spnS p) []) wr)
 case atStart => exact ⟨0, Nat.zero_le _, rfl, rfl, HV0⟩
 case round =>
  clear HV0
  obtain ⟨k, hk, hgk, rfl, HV⟩ := hrel
  have HGK := Lib.hid hgk
  clear hgk
  by_cases hlt : k < l.length
  ·have HBW : Hid (∀ W, Below W1.heap.size W1 W → Below w.heap.size w W) := fun W hb => HQ1.out.1.trans (hb.mono HQ1.out.1.size)
   obtain ⟨ad, hA, -, d0, d1, d2⟩ := (HR.out _ (HBW.out _ HV.1)).at hlt
   have HRK := Lib.hid (fun W (hb : Below W1.heap.size W1 W) => ((HR.out W (HBW.out W hb)).2 l[k] (List.getElem_mem hlt)).1)
   have hsz := hsm _ (List.getElem_mem hlt)
   have HIX := Lib.hid (fun W (hb : Below W1.heap.size W1 W) => indexP_any l[k].par.ring l[k].A l[k].cap p (by omega) W (HRK.out W hb))
   have HST : Hid (((l.map fun x => x.par.ring).take (k + 1)).foldl (spnS p) [] = spnS p (((l.map fun x => x.par.ring).take k).foldl (spnS p) []) l[k].par.ring) := by
    unfold Hid
    rw [List.take_succ_eq_append_getElem (by rw [List.length_map]; exact hlt), List.foldl_append, List.getElem_map]
    rfl
   have HLN : Hid ((((l.map fun x => x.par.ring).take k).foldl (spnS p) []).length ≤ 100000) := by
    have h1 := spn_len p ((l.map fun x => x.par.ring).take k) []
    rw [List.length_take, List.length_map] at h1
    unfold Hid
    simp only [List.length_nil] at h1
    omega
   have b0 : (0 : Int) ≤ (k : Int) := by omega
   have b1 : (k : Int) < (l.length : Int) := by omega
   have b2 : (l.length : Int) ≤ 100000 := by omega
   subst hA
   obtain ⟨Av, cv, rfl, -, hnil⟩ := HV.items
   clear hnil
   generalize l[k].par.ring = r at *
   generalize l[k].par.id = xi at *
   generalize l[k].par.own = xo at *
   generalize l[k].A = xA at *
   generalize l[k].cap = xc at *
   generalize ((l.map fun x => x.par.ring).take k).foldl (spnS p) [] = acc at *
   go_upto_region 5 with (fail)
   have h5 := (Hold.refl wr).new #[.int .i64 xi, .slice xA r.length xc, .string xo] 39
   clear d0 d1 d2 HR
   generalize (World.alloc _ _) = W5 at h5 ⊢
   generalize wr.heap.size = g7 at h5 ⊢
   have z1 := h5.cell (.head _) 1
   have hv5 := HV.on h5.1
   obtain ⟨c0, c1⟩ := (HQ1.out.on hv5.1).pt (.head _)
   have HV5 := Lib.hid hv5
   clear HV h5 hv5
   go_wp2_with fail
   go_at_call 27
   refine (HIX.out _ HV5.out.1).mono ?_
   rintro e' W6 ⟨n, rfl, hpl, hB⟩
   have hv6 := HV5.out.on hB
   clear z1 c0 c1 hB HIX HV5
   have HV6 := Lib.hid hv6
   clear hv6
   by_cases hm : p ∈ r
   ·have hnn := plc_pos hpl hm
    have hj := posL_lt hm
    subst hnn
    obtain ⟨j1, hj1, ek1, ek2, ek3⟩ := prev_place hj
    obtain ⟨j2, hj2, em1, em2, em3⟩ := next_place hj
    obtain ⟨ar, hA, F1⟩ := (HRK.out _ HV6.out.1).fp hj1 ek1
    obtain ⟨ar', e', F2⟩ := (HRK.out _ HV6.out.1).fp hj2 em1
    obtain rfl := Option.some.inj (hA.symm.trans e')
    have HST2 : Hid (spnS p acc r = if (nx r (posL r p + 1), nx r (posL r p + r.length - 1)) ∈ acc then acc else acc ++ [(nx r (posL r p + r.length - 1), nx r (posL r p + 1))]) := by
     unfold Hid spnS
     rw [if_pos hm]
     rfl
    rw [HST2.out] at HST
    subst hA
    have b3 : (0 : Int) ≤ (posL r p : Int) := by omega
    have b4 : (posL r p : Int) < (r.length : Int) := by omega
    have b5 : (r.length : Int) ≤ 1000 := by omega
    have b6 : (0 : Int) ≤ (j1 : Int) := by omega
    have b7 : (j1 : Int) < (r.length : Int) := by omega
    have b8 : (0 : Int) ≤ (j2 : Int) := by omega
    have b9 : (j2 : Int) < (r.length : Int) := by omega
    have z1 : ((r.length : Int) == 0) = false := by rw [beq_eq_false_iff_ne]; omega
    have z2 : ¬ (r.length : Int) = 0 := by omega
    have z7 : ¬ r.length = 0 := by omega
    have z8 : ¬ r = [] := fun e => z7 (by rw [e]; rfl)
    clear hpl hm hj ek1 em1 e' hsz HST2 HRK
    generalize nx r (posL r p + r.length - 1) = a at *
    generalize nx r (posL r p + 1) = b at *
    generalize posL r p = n at *
    go_upto_region 8 with (fail)
    go_cut [10, 11] (fun s10 s11 wx => ∃ ga gb, s10 = .pointer (some ⟨ga, 0, none⟩) ∧ s11 = .pointer (some ⟨gb, 0, none⟩) ∧ Below W6.heap.size W6 wx ∧ (wx.heap[ga]? = some (.cells #[.int .i64 a.1, .int .i64 a.2] 28 (0, 0))) ∧ wx.heap[gb]? = some (.cells #[.int .i64 b.1, .int .i64 b.2] 28 (0, 0)))
    case first =>
     have z3 := wrap_in (n := (n : Int) + (r.length : Int)) (by omega) (by omega)
     have z4 := wrap_in (n := (n : Int) + (r.length : Int) - 1) (by omega) (by omega)
     have z5 := wrap_in (n := (n : Int) + 1) (by omega) (by omega)
     have z6 := wrap_in (n := (n : Int)) (by omega) (by omega)
     have z9 := wrap_in (n := (j1 : Int)) (by omega) (by omega)
     have z10 := wrap_in (n := (j2 : Int)) (by omega) (by omega)
     obtain ⟨l1, x0, x1⟩ := F1
     obtain ⟨l2, y0, y1⟩ := F2
     have q0 : ∀ (cs : Array Value) (t : TypeId), Below W6.heap.size W6 (W6.alloc (Obj.cells cs t (0, 0))) := fun cs t => (Below.refl _ W6).alloc (Nat.le_refl _) _
     have q1 : ∀ (cs : Array Value) (t : TypeId) (cs' : Array Value) (t' : TypeId), Below W6.heap.size W6 ((W6.alloc (Obj.cells cs t (0, 0))).alloc (Obj.cells cs' t' (0, 0))) := fun cs t cs' t' => (q0 cs t).alloc (by rw [World.size_alloc]; omega) _
     have HF : Hid (∀ W, Below W6.heap.size W6 W → (W.cell? (ar.add (j1 * 2)) = some (.int .i64 a.1) ∧ W.cell? ⟨(ar.add (j1 * 2)).block, (ar.add (j1 * 2)).off + 1, none⟩ = some (.int .i64 a.2)) ∧ W.cell? (ar.add (j2 * 2)) = some (.int .i64 b.1) ∧ W.cell? ⟨(ar.add (j2 * 2)).block, (ar.add (j2 * 2)).off + 1, none⟩ = some (.int .i64 b.2)) := fun W hb => by
      have hh : Hold W6 [] W := ⟨hb, fun _ h => (by cases h), List.Pairwise.nil⟩
      exact ⟨hh.fp ⟨l1, x0, x1⟩, hh.fp ⟨l2, y0, y1⟩⟩
     have p0 := fun cs t => (HF.out _ (q0 cs t)).1.1
     have p1 := fun cs t => (HF.out _ (q0 cs t)).1.2
     have p2 := fun cs t => (HF.out _ (q0 cs t)).2.1
     have p3 := fun cs t => (HF.out _ (q0 cs t)).2.2
     have r0 := fun cs t cs' t' => (HF.out _ (q1 cs t cs' t')).1.1
     have r1 := fun cs t cs' t' => (HF.out _ (q1 cs t cs' t')).1.2
     have r2 := fun cs t cs' t' => (HF.out _ (q1 cs t cs' t')).2.1
     have r3 := fun cs t cs' t' => (HF.out _ (q1 cs t cs' t')).2.2
     clear q0 q1 l1 l2
     clear HV6 HST HGK HQ1 HBW HLN
     go_region
     all_goals (go_wp2_with fail)
     all_goals go_meet
     ·have h := (((Hold.refl W6).new #[.int .i64 a.1, .int .i64 a.2] 28).new' #[.int .i64 b.1, .int .i64 b.2] 28 (n := W6.heap.size + 1) (by simp)).drew
      exact ⟨_, _, rfl, rfl, h.1, (h.2.1 _ (.tail _ (.head _))).1, (h.2.1 _ (.head _)).1⟩
     ·have h := (((Hold.refl W6).new #[.int .i64 b.1, .int .i64 b.2] 28).new' #[.int .i64 a.1, .int .i64 a.2] 28 (n := W6.heap.size + 1) (by simp)).drew
      exact ⟨_, _, rfl, rfl, h.1, (h.2.1 _ (.head _)).1, (h.2.1 _ (.tail _ (.head _))).1⟩
    case rest =>
     obtain ⟨ga, gb, rfl, rfl, hB, ha, hb⟩ := hcut
     have hv7 := HV6.out.on hB
     clear F1 F2 HV6 hB
     generalize wc = W7 at *
     have x0 := blk_cell ha 0
     have x1 := blk_cell ha 1
     have y0 := blk_cell hb 0
     have y1 := blk_cell hb 1
     obtain ⟨Av', cv', ev, hit, hnil⟩ := hv7.items
     cases ev
     have HCE := Lib.hid (containsE_any acc Av cv (b, a) (by have := HLN.out; omega) _ hit)
     have HV7 := Lib.hid hv7
     have HBA := Lib.hid ha
     have HBB := Lib.hid hb
     clear hit hnil hv7 ha hb
     go_wp2_with fail
     go_at_call 41
     refine HCE.out.mono ?_
     rintro e' W8 ⟨rfl, hB⟩
     have hv8 := HV7.out.on hB
     have ha := (hB.block _ (blk_lt HBA.out)).trans HBA.out
     have hb := (hB.block _ (blk_lt HBB.out)).trans HBB.out
     have HV8 := Lib.hid hv8
     clear hv8 x0 x1 y0 y1 hB HV7 HBA HBB HCE
     have x0 := blk_cell ha 0
     have x1 := blk_cell ha 1
     have y0 := blk_cell hb 0
     have y1 := blk_cell hb 1
     clear ha hb
     by_cases hin : (b, a) ∈ acc
     ·rw [if_pos hin] at HST
      have e1 : decide ((b, a) ∈ acc) = true := decide_eq_true hin
      rw [e1]
      clear hin e1 x0 x1 y0 y1
      go_wp2
      go_roundg (l.length - (k + 1))
      case measure => have := HGK.out; omega
      case rel => exact ⟨k + 1, by omega, rfl, by go_num, by rw [HST.out]; exact HV8.out⟩
     ·rw [if_neg hin] at HST
      have e1 : decide ((b, a) ∈ acc) = false := decide_eq_false hin
      rw [e1]
      clear hin e1
      go_wp2_with (at_builtin; go_must (refine append_itemG kindG Try.underlying62 HV8.out (a, b) 50 #[.int .i64 (a, b).1.1, .int .i64 (a, b).1.2, .int .i64 (a, b).2.1, .int .i64 (a, b).2.2] rfl (by have := HLN.out; unfold maxLen; omega) (by have := HLN.out; omega) rfl _ _ rfl rfl 1 rfl ?_; rintro v9 w9 HR9 hg9; have HV9 := Lib.hid HR9; clear HR9 hg9))
      go_roundg (l.length - (k + 1))
      case measure => have := HGK.out; omega
      case rel => exact ⟨k + 1, by omega, rfl, by go_num, by rw [HST.out]; exact HV9.out⟩
   ·obtain rfl := plc_no hpl hm
    rw [show spnS p acc r = acc from if_neg hm] at HST
    clear hm hpl
    go_wp2
    go_roundg (l.length - (k + 1))
    case measure => have := HGK.out; omega
    case rel => exact ⟨k + 1, by omega, rfl, by go_num, by rw [HST.out]; exact HV6.out⟩
  ·obtain rfl : k = l.length := by omega
   rw [List.take_of_length_le (by rw [List.length_map]; exact Nat.le_refl _)] at HV
   have HF := Lib.hid (HV.base HQ1.out.1)
   clear HV
   go_wp2
   go_ret
   exact ⟨_, rfl, HF.out⟩
end Go.Proofs.Ytfjfmieadedjoaa

namespace Go.Proofs.Ytfjfmieadedjoaa
open Go.RowKit
theorem spn_mem (p : Int × Int) : ∀ (L : List (List (Int × Int))) (acc : List ((Int × Int) × (Int × Int))) (e : (Int × Int) × (Int × Int)), e ∈ L.foldl (spnS p) acc → e ∈ acc ∨ ∃ r ∈ L, p ∈ r ∧ e = bsR r p
 |[], _, _, h => .inl h
 |r :: L, acc, e, h => by
  rw [List.foldl_cons] at h
  rcases spn_mem p L _ e h with h | ⟨s, hs, h1, h2⟩
  ·unfold spnS at h
   split at h
   ·rename_i hp
    split at h
    ·exact .inl h
    ·rcases List.mem_append.1 h with h | h
     ·exact .inl h
     ·exact .inr ⟨r, List.mem_cons_self, hp, List.mem_singleton.1 h⟩
   ·exact .inl h
  ·exact .inr ⟨s, List.mem_cons_of_mem _ hs, h1, h2⟩
set_option maxRecDepth 100000 in
set_option maxHeartbeats 4000000 in
theorem idle_any (o : List (Int × Int)) (Ao : Option Addr) (co : Nat) (l : List PV) (Ap : Option Addr) (cp : Nat) (p : Int × Int) (hl : l.length ≤ 100000) (hp : Gd p) (hgr : ∀ x ∈ l, gdL x.par.ring = true ∧ x.par.ring.length ≤ 1000) (hc : ∃ x ∈ l, p ∈ x.par.ring) (w : World) (hr : Prs w Ap l) :
  Calls Try.prog 21 #[.agg #[.slice Ao o.length co, .slice Ap l.length cp], .agg #[.int .i64 p.1, .int .i64 p.2]] w fun e w' => e = .returned (.bool (idlB (l.map fun x => x.par.ring) p)) ∧ Below w.heap.size w w' := by
 have HSX := Lib.hid (fun W (hb : Below w.heap.size w W) => spans_any l Ap cp p hl (fun x hx => (hgr x hx).2) W (hr.on hb))
 have HQ := ((Hold.refl w).new #[.slice Ao o.length co, .slice Ap l.length cp] 26).new' #[.int .i64 p.1, .int .i64 p.2] 28 (n := w.heap.size + 1) (by simp)
 obtain ⟨s, t, hst⟩ : ∃ s t, spnL (l.map fun x => x.par.ring) p = s :: t := by
  obtain ⟨x, hx, hpx⟩ := hc
  have h1 := (spn_keep p (l.map fun x => x.par.ring) []).2 _ (List.mem_map_of_mem (f := fun x : PV => x.par.ring) hx) hpx
  unfold spnL
  cases h : (l.map fun x => x.par.ring).foldl (spnS p) [] with
  |nil => rw [h] at h1; rcases h1 with h1 | h1 <;> cases h1
  |cons a b => exact ⟨a, b, rfl⟩
 have HGD : Hid (gdL [s.1, s.2, p] = true) := by
  have hm : s ∈ (l.map fun x => x.par.ring).foldl (spnS p) [] := by
   rw [show (l.map fun x => x.par.ring).foldl (spnS p) [] = s :: t from hst]
   exact List.mem_cons_self
  rcases spn_mem p _ _ _ hm with h | ⟨r, hr', hpr, rfl⟩
  ·cases h
  ·obtain ⟨x, hx, rfl⟩ := List.mem_map.1 hr'
   have h0 : 0 < x.par.ring.length := List.length_pos_of_mem hpr
   exact gdL_three.2 ⟨nx_gd (hgr x hx).1 h0 _, nx_gd (hgr x hx).1 h0 _, hp⟩
 have HID : Hid (idlB (l.map fun x => x.par.ring) p = (onB s.1 s.2 p && decide ((s :: t).length = 1))) := by
  unfold Hid idlB
  rw [hst]
  rfl
 have HLT : Hid ((s :: t).length ≤ 100000) := by
  have h1 := spn_len p (l.map fun x => x.par.ring) []
  rw [show (l.map fun x => x.par.ring).foldl (spnS p) [] = s :: t from hst, List.length_map, List.length_nil] at h1
  unfold Hid
  omega
 rw [hst] at HSX
 clear hr hst hgr hc hp
 go_enter Try.func21, Try.ntmps21
 go_upto_region 1 with (fail)
 generalize (World.alloc _ _) = W1 at HQ ⊢
 generalize w.heap.size + 1 = g3 at HQ ⊢
 obtain ⟨g2, hg2⟩ : ∃ g, w.heap.size = g := ⟨_, rfl⟩
 have HG2 := Lib.hid hg2
 rw [hg2] at HQ ⊢
 clear hg2
 have HQ1 := Lib.hid HQ
 obtain ⟨c0, c1⟩ := HQ.pt (.tail _ (.head _))
 obtain ⟨d0, d1⟩ := HQ.pt (.head _)
 clear HQ
 go_wp2_with fail
 go_at_call 32
 refine (HSX.out _ HQ1.out.1).mono ?_
 rintro e' W2 ⟨v, rfl, hv⟩
 obtain ⟨Av, cv, rfl, hit, -⟩ := hv.items
 have HQ2 := Lib.hid (HQ1.out.on hv.1)
 obtain ⟨gs, rfl, -⟩ := own_block hv.2 (by simp)
 have HKS : Hid (∀ W, Below W2.heap.size W2 W → (W.cell? ⟨gs, 0, none⟩ = some (.int .i64 s.1.1) ∧ W.cell? ⟨gs, 1, none⟩ = some (.int .i64 s.1.2) ∧ W.cell? ⟨gs, 2, none⟩ = some (.int .i64 s.2.1) ∧ W.cell? ⟨gs, 3, none⟩ = some (.int .i64 s.2.2)) ∧ W.cell? ⟨g3, 0, none⟩ = some (.int .i64 p.1) ∧ W.cell? ⟨g3, 1, none⟩ = some (.int .i64 p.2)) := fun W hb => by
  obtain ⟨aS2, hA, -, hc0, hc⟩ := Items.at kindG.len (hit.on hb) (k := 0) (by simp)
  obtain rfl := Option.some.inj hA
  have e : ((⟨gs, 0, none⟩ : Addr).add (0 * 4)) = ⟨gs, 0, none⟩ := by rw [add_off]
  rw [e] at hc0 hc
  exact ⟨⟨hc0 _ (by decide) rfl, hc 1 _ (by decide) (by decide) rfl, hc 2 _ (by decide) (by decide) rfl, hc 3 _ (by decide) (by decide) rfl⟩, (HQ2.out.on hb).pt (.head _)⟩
 have b1 : (0 : Int) < ((s :: t).length : Int) := by rw [List.length_cons]; omega
 have b2 : ((s :: t).length : Int) ≤ 100000 := by have := HLT.out; omega
 have HBR := Lib.hid (Below.refl W2.heap.size W2)
 have HBD : Hid (Below W2.heap.size W2 W2.drew) := ⟨rfl, rfl, rfl, Nat.le_refl _, fun _ _ => rfl⟩
 clear hv hit c0 c1 d0 d1 HQ1 HSX HLT
 generalize hn : (s :: t).length = n at *
 have b3 : 0 < n := by omega
 have b4 : ¬ n = 0 := by omega
 have b5 : ¬ (n : Int) = 0 := by omega
 have b6 : ¬ (n : Int) ≤ 0 := by omega
 have b7 : ¬ n ≤ 0 := by omega
 go_upto_region 2 with (fail)
 go_cut [6] (fun s6 wx => s6 = .bool (onB s.1 s.2 p) ∧ Below W2.heap.size W2 wx)
 case first =>
   go_region_held3 (fun W => (W.cell? ⟨gs, 0, none⟩ = some (.int .i64 s.1.1) ∧ W.cell? ⟨gs, 1, none⟩ = some (.int .i64 s.1.2) ∧ W.cell? ⟨gs, 2, none⟩ = some (.int .i64 s.2.1) ∧ W.cell? ⟨gs, 3, none⟩ = some (.int .i64 s.2.2)) ∧ W.cell? ⟨g3, 0, none⟩ = some (.int .i64 p.1) ∧ W.cell? ⟨g3, 1, none⟩ = some (.int .i64 p.2)) (first | exact HKS.out _ HBR.out | exact HKS.out _ HBD.out | exact HKS.out _ (Hid.out (by assumption))) ((first
    |(go_at_call 31; (with_reducible refine (On_good s.1 s.2 p HGD.out _).mono ?_); rintro e' Wi ⟨rfl, hBi⟩; have HBI : Hid (Below W2.heap.size W2 Wi) := (by first | exact HBD.out.trans (hBi.mono HBD.out.size) | exact HBR.out.trans (hBi.mono HBR.out.size)))))
   all_goals (go_wp2_with fail)
   all_goals go_meet
   all_goals exact ⟨rfl, HBI.out⟩
 case rest =>
  obtain ⟨rfl, hB⟩ := hcut
  have HEN := Lib.hid (HQ2.out.on hB).1
  clear hB
  cases ho : onB s.1 s.2 p
  ·rw [ho, Bool.false_and] at HID
   go_wp2
   go_ret
   rw [HID.out]
   exact ⟨rfl, HG2.out ▸ HEN.out⟩
  ·rw [ho, Bool.true_and] at HID
   go_wp2
   go_ret
   rw [HID.out]
   exact ⟨by simp; rw [Bool.eq_iff_iff, beq_iff_eq, decide_eq_true_eq]; omega, HG2.out ▸ HEN.out⟩

noncomputable def clE (o : List (Int × Int)) (ps : List Par) (p : Int × Int) : Int :=
 if chkQ o ps = false then 2 else if gd p = false then 3 else if cB ps p = false then 5 else if idlB (ringsQ ps) p = false then 7 else if chkQ (nmL (repL o p [])) (ps.map fun x => nmP (clP p x)) = false then 8 else 0
theorem cl_form {o : List (Int × Int)} {ps : List Par} {p : Int × Int} (h1 : chkQ o ps = false) : clE o ps p = 2 := by unfold clE; rw [if_pos h1]
theorem cl_range {o : List (Int × Int)} {ps : List Par} {p : Int × Int} (h1 : chkQ o ps = true) (h2 : gd p = false) : clE o ps p = 3 := by unfold clE; rw [if_neg (by rw [h1]; decide), if_pos h2]
section
variable {o : List (Int × Int)} {ps : List Par} {p : Int × Int} (h1 : chkQ o ps = true) (h2 : gd p = true)
include h1 h2
theorem cl_none (h3 : cB ps p = false) : clE o ps p = 5 := by unfold clE; rw [if_neg (by rw [h1]; decide), if_neg (by rw [h2]; decide), if_pos h3]
theorem cl_side (h3 : cB ps p = true) (h4 : idlB (ringsQ ps) p = false) : clE o ps p = 7 := by unfold clE; rw [if_neg (by rw [h1]; decide), if_neg (by rw [h2]; decide), if_neg (by rw [h3]; decide), if_pos h4]
theorem cl_cross (h3 : cB ps p = true) (h4 : idlB (ringsQ ps) p = true) (h5 : chkQ (nmL (repL o p [])) (ps.map fun x => nmP (clP p x)) = false) : clE o ps p = 8 := by unfold clE; rw [if_neg (by rw [h1]; decide), if_neg (by rw [h2]; decide), if_neg (by rw [h3]; decide), if_neg (by rw [h4]; decide), if_pos h5]
theorem cl_ok (h3 : cB ps p = true) (h4 : idlB (ringsQ ps) p = true) (h5 : chkQ (nmL (repL o p [])) (ps.map fun x => nmP (clP p x)) = true) : clE o ps p = 0 := by unfold clE; rw [if_neg (by rw [h1]; decide), if_neg (by rw [h2]; decide), if_neg (by rw [h3]; decide), if_neg (by rw [h4]; decide), if_neg (by rw [h5]; decide)]
end
def ClearAt (w w' : World) (o : List (Int × Int)) (ps : List Par) (p : Int × Int) (e : Ending) : Prop :=
 Below w.heap.size w w' ∧ ((clE o ps p ≠ 0 ∧ e = .returned (.tuple #[.agg #[.slice none 0 0, .slice none 0 0], .int .i64 (clE o ps p)])) ∨
  (clE o ps p = 0 ∧ ∃ A1 c1 Ap1 cp1 l', e = .returned (.tuple #[.agg #[.slice A1 (nmL (repL o p [])).length c1, .slice Ap1 l'.length cp1], .int .i64 0]) ∧ l'.map PV.par = ps.map (fun x => nmP (clP p x)) ∧ Row w (.slice A1 (nmL (repL o p [])).length c1) (nmL (repL o p [])) w' ∧ RowI w 39 3 encV (.slice Ap1 l'.length cp1) l' w' ∧ OwnRs w l' w'))
theorem clearC_at (ps : List (Int × Int)) (A : Option Addr) (cap : Nat) (p : Int × Int) (g : Nat) (h3 : 3 ≤ ps.length) (hn : ps.length ≤ 1000) (hcap : ps.length ≤ cap) (w : World) (hr : Pts w w.heap.size A ps) (hc : w.heap[g]? = some (.cells #[.int .i64 p.1, .int .i64 p.2] 28 (0, 0))) :
  Calls Try.prog 22 #[.slice A ps.length cap, .pointer (some ⟨g, 0, none⟩)] w fun e w' => RingTo w w' (repL ps p []) e := by
 obtain ⟨ad, rfl, -, -⟩ := hr (by omega)
 exact clearC_any ps ad cap p g (by omega) hn hcap w hr (blk_cell hc 0) (blk_cell hc 1)
set_option maxRecDepth 100000 in
set_option maxHeartbeats 8000000 in
theorem Clear_any (o : List (Int × Int)) (Ao : Option Addr) (co : Nat) (l : List PV) (Ap : Option Addr) (cp : Nat) (p : Int × Int) (hl : l.length ≤ 1000000) (ho : o.length ≤ 8796093022208) (hown : ∀ x ∈ l, x.par.own.size ≤ maxLen) (w : World) (h : PlanAt w o Ao co l Ap cp) :
  Calls Try.prog 10 #[.agg #[.slice Ao o.length co, .slice Ap l.length cp], .agg #[.int .i64 p.1, .int .i64 p.2]] w fun e w' => ClearAt w w' o (l.map PV.par) p e := by
 have HCO := Lib.hid (fun W (hb : Below w.heap.size w W) => Corner_any o Ao co l Ap cp p hl ho hown W (h.on hb))
 have HPA := Lib.hid (fun W (hb : Below w.heap.size w W) => h.on hb)
 have HLL := Lib.hid hl
 have HOW := Lib.hid hown
 have HQ := (((Hold.refl w).new #[.slice Ao o.length co, .slice Ap l.length cp] 26).new' #[.int .i64 p.1, .int .i64 p.2] 28 (n := w.heap.size + 1) (by simp)).new' #[.slice none 0 0, .slice none 0 0] 26 (n := w.heap.size + 1 + 1) (by simp)
 clear h hl ho hown
 go_enter Try.func10, Try.ntmps10
 go_upto_region 1 with (fail)
 generalize (World.alloc _ _) = W1 at HQ ⊢
 generalize w.heap.size + 1 + 1 = g4 at HQ ⊢
 generalize w.heap.size + 1 = g3 at HQ ⊢
 obtain ⟨g2, hg2⟩ : ∃ g, w.heap.size = g := ⟨_, rfl⟩
 rw [hg2] at HQ ⊢
 have HQX := Lib.hid HQ
 have HG2 := Lib.hid hg2
 clear hg2
 obtain ⟨c0, c1⟩ := HQ.pt (.tail _ (.tail _ (.head _)))
 obtain ⟨d0, d1⟩ := HQ.pt (.tail _ (.head _))
 clear HQ
 go_wp2_with fail
 go_at_call 11
 refine (HCO.out _ HQX.out.1).mono ?_
 rintro e' W2 ⟨rfl, hB⟩
 have HQ2 := Lib.hid (HQX.out.on hB)
 clear hB c0 c1 d0 d1 HCO
 cases hcb : chkB o l
 ·rw [(cn_bad p hcb).1, (cn_bad p hcb).2]
  have HE := Lib.hid (cl_form (p := p) ((chkQ_of o l).symm.trans hcb))
  clear hcb
  obtain ⟨y0, y1⟩ := HQ2.out.pt (.head _)
  obtain ⟨z0, z1⟩ := HQ2.out.fz (.head _)
  go_wp2
  have HE2 := HQ2.out.set2 (.slice none 0 0) (.slice none 0 0)
  obtain ⟨n0, n1⟩ := HE2.pt (.head _)
  refine bodyPost_ret (v := .tuple #[.agg #[.slice none 0 0, .slice none 0 0], .int .i64 2]) ?_ rfl ⟨HE2.1, .inl ⟨by rw [HE.out]; decide, by rw [HE.out]⟩⟩
  simp [results, Try.results10, go_sem, n0, n1]
 ·have HCB := Lib.hid ((chkQ_of o l).symm.trans hcb)
  cases hp : gd p
  ·rw [(cn_far hcb hp).1, (cn_far hcb hp).2]
   have HE := Lib.hid (cl_range HCB.out hp)
   clear hcb hp
   obtain ⟨y0, y1⟩ := HQ2.out.pt (.head _)
   obtain ⟨z0, z1⟩ := HQ2.out.fz (.head _)
   go_wp2
   have HE2 := HQ2.out.set2 (.slice none 0 0) (.slice none 0 0)
   obtain ⟨n0, n1⟩ := HE2.pt (.head _)
   refine bodyPost_ret (v := .tuple #[.agg #[.slice none 0 0, .slice none 0 0], .int .i64 3]) ?_ rfl ⟨HE2.1, .inl ⟨by rw [HE.out]; decide, by rw [HE.out]⟩⟩
   simp [results, Try.results10, go_sem, n0, n1]
  ·rw [(cn_good hcb hp).1, (cn_good hcb hp).2]
   have HGP := Lib.hid hp
   have HCP : Hid (CheckP o l) := chkB_iff.1 hcb
   have HPQ : Hid (PlanQ o (l.map PV.par)) := chkB_plan.1 hcb
   clear hcb hp
   cases hco : cornB l p
   ·have HE := Lib.hid (cl_none HCB.out HGP.out ((cB_of l p).symm.trans hco))
    clear hco
    obtain ⟨y0, y1⟩ := HQ2.out.pt (.head _)
    obtain ⟨z0, z1⟩ := HQ2.out.fz (.head _)
    go_wp2
    have HE2 := HQ2.out.set2 (.slice none 0 0) (.slice none 0 0)
    obtain ⟨n0, n1⟩ := HE2.pt (.head _)
    refine bodyPost_ret (v := .tuple #[.agg #[.slice none 0 0, .slice none 0 0], .int .i64 5]) ?_ rfl ⟨HE2.1, .inl ⟨by rw [HE.out]; decide, by rw [HE.out]⟩⟩
    simp [results, Try.results10, go_sem, n0, n1]
   ·have HNB := Lib.hid ((cB_of l p).symm.trans hco)
    have hring : ∀ x ∈ l, Sound x.par.ring ∧ gdL x.par.ring = true ∧ x.par.ring.length ≤ 128 := fun x hx => HPQ.out.ringP (List.mem_map_of_mem hx)
    have h64 := HPQ.out.fine.2.2.2.1
    rw [List.length_map] at h64
    have HOE := Lib.hid (fun W (hb : Below w.heap.size w W) => idle_any o Ao co l Ap cp p (by omega) (gd_iff.1 HGP.out) (fun x hx => ⟨(hring x hx).2.1, by have := (hring x hx).2.2; omega⟩) (cornB_iff.1 hco) W (HPA.out W hb).prs)
    rw [show (l.map fun x => x.par.ring) = ringsQ (l.map PV.par) by unfold ringsQ; rw [List.map_map]; rfl] at HOE
    have HRI := Lib.hid hring
    have H64 := Lib.hid h64
    clear hco hring h64
    obtain ⟨c0, c1⟩ := HQ2.out.pt (.tail _ (.tail _ (.head _)))
    obtain ⟨d0, d1⟩ := HQ2.out.pt (.tail _ (.head _))
    go_wp2_with fail
    go_at_call 21
    refine (HOE.out _ HQ2.out.1).mono ?_
    rintro e' W3 ⟨rfl, hB⟩
    have HQ3 := HQ2.out.on hB
    clear hB c0 c1 d0 d1 HOE HQ2
    have HQ2 := Lib.hid HQ3
    clear HQ3
    cases hed : idlB (ringsQ (l.map PV.par)) p
    ·have HE := Lib.hid (cl_side HCB.out HGP.out HNB.out hed)
     clear hed
     obtain ⟨y0, y1⟩ := HQ2.out.pt (.head _)
     obtain ⟨z0, z1⟩ := HQ2.out.fz (.head _)
     go_wp2
     have HE2 := HQ2.out.set2 (.slice none 0 0) (.slice none 0 0)
     obtain ⟨n0, n1⟩ := HE2.pt (.head _)
     refine bodyPost_ret (v := .tuple #[.agg #[.slice none 0 0, .slice none 0 0], .int .i64 7]) ?_ rfl ⟨HE2.1, .inl ⟨by rw [HE.out]; decide, by rw [HE.out]⟩⟩
     simp [results, Try.results10, go_sem, n0, n1]
    ·have HED := Lib.hid hed
     clear hed
     have hP2 := HPA.out _ HQ2.out.1
     have hcell := (HQ2.out.2.1 _ (.tail _ (.head _))).1
     have hoP := HPQ.out.outP
     have hlen : ∀ r : List (Int × Int), r.length ≤ 128 → (nmL (repL r p [])).length ≤ 1000 ∧ (repL r p []).length ≤ maxLen := fun r hr => by
      have a := repL_len r [] p
      have b := nm_le (repL r p [])
      simp only [List.length_nil] at a
      exact ⟨by omega, by unfold maxLen; omega⟩
     have HAN := Lib.hid (anewC_any o Ao co l Ap cp (fun r => repL r p []) (nmL (repL o p [])) rfl g3 H64.out (hlen o hoP.2.2) (fun x hx => ⟨(hlen _ (HRI.out x hx).2.2).1, HOW.out x hx, (hlen _ (HRI.out x hx).2.2).2⟩) _ hP2
      (fun W hb => clearC_at o Ao co p g3 hoP.1.1 (by omega) hP2.caps.1 W (hP2.out.on hb) ((hb.block _ (blk_lt hcell)).trans hcell))
      (fun x hx W hb => clearC_at x.par.ring x.A x.cap p g3 (HRI.out x hx).1.1 (by have := (HRI.out x hx).2.2; omega) (hP2.caps.2 x hx) W ((hP2.prs.2 x hx).1.on hb) ((hb.block _ (blk_lt hcell)).trans hcell)))
     have emap : (l.map (parB fun r => repL r p [])) = (l.map PV.par).map fun x => nmP (clP p x) := by rw [List.map_map]; rfl
     rw [emap] at HAN
     clear hP2 hcell hoP hlen emap
     obtain ⟨c0, c1⟩ := HQ2.out.pt (.tail _ (.tail _ (.head _)))
     go_wp2_with fail
     go_at_call 13
     refine HAN.out.mono ?_
     rintro e' W4 ⟨hB, hd⟩
     have HQ4 := HQ2.out.on hB
     have hB0 := HQ2.out.1
     clear c0 c1 HAN
     rcases hd with ⟨hc, rfl⟩ | ⟨hc, A1, c1, Ap1, cp1, l', rfl, hm, h1, h2, h3⟩
     ·have HE := Lib.hid (cl_cross HCB.out HGP.out HNB.out HED.out hc)
      clear hc hB hB0 HQ2
      have HQ2 := Lib.hid HQ4
      clear HQ4
      obtain ⟨y0, y1⟩ := HQ2.out.pt (.head _)
      obtain ⟨z0, z1⟩ := HQ2.out.fz (.head _)
      go_wp2
      have HE2 := HQ2.out.set2 (.slice none 0 0) (.slice none 0 0)
      obtain ⟨n0, n1⟩ := HE2.pt (.head _)
      refine bodyPost_ret (v := .tuple #[.agg #[.slice none 0 0, .slice none 0 0], .int .i64 8]) ?_ rfl ⟨HE2.1, .inl ⟨by rw [HE.out]; decide, by rw [HE.out]⟩⟩
      simp [results, Try.results10, go_sem, n0, n1]
     ·have HE := Lib.hid (cl_ok HCB.out HGP.out HNB.out HED.out hc)
      have hog := Og.mkSet HQ4 (h1.base hB0) (RowI.base h2 hB0) (OwnRs.base h3 hB0)
      have HOG := Lib.hid hog
      have HM := Lib.hid hm
      obtain ⟨y0, y1⟩ := HQ4.pt (.head _)
      obtain ⟨z0, z1⟩ := HQ4.fz (.head _)
      clear hc hB hB0 hog hm h1 h2 h3 HQ4
      go_wp2
      obtain ⟨n0, n1⟩ := HOG.out.hold.pt (.head _)
      refine bodyPost_ret (v := .tuple #[.agg #[.slice A1 (nmL (repL o p [])).length c1, .slice Ap1 l'.length cp1], .int .i64 0]) ?_ rfl ⟨HOG.out.hold.1, .inr ⟨HE.out, A1, c1, Ap1, cp1, l', rfl, HM.out, HOG.out.out, HOG.out.row, HOG.out.rs⟩⟩
      simp [results, Try.results10, go_sem, n0, n1]
end Go.Proofs.Ytfjfmieadedjoaa

namespace Go.Proofs.Ytfjfmieadedjoaa
open Go.RowKit
noncomputable def clO (o : List (Int × Int)) (ps : List Par) (p : Int × Int) : List (Int × Int) := if clE o ps p = 0 then nmL (repL o p []) else []
noncomputable def clQ (o : List (Int × Int)) (ps : List Par) (p : Int × Int) : List Par := if clE o ps p = 0 then ps.map (fun x => nmP (clP p x)) else []
theorem ClearAt.ans {w w' : World} {o : List (Int × Int)} {ps : List Par} {p : Int × Int} {e : Ending} (h : ClearAt w w' o ps p e) : MkAns w w' (clO o ps p) (clQ o ps p) (clE o ps p) e := by
 obtain ⟨hB, ⟨hne, rfl⟩ | ⟨hz, A1, c1, Ap1, cp1, l1, rfl, hm, h1, h2, h3⟩⟩ := h
 ·have e1 : clO o ps p = [] := if_neg hne
  have e2 : clQ o ps p = [] := if_neg hne
  rw [e1, e2]
  exact ⟨hB, none, 0, [], none, 0, rfl, rfl, ⟨hB, World.ownsRow_nil _ _ _ _⟩, RowI.nil hB, fun x hx => nomatch hx⟩
 ·have e1 : clO o ps p = nmL (repL o p []) := if_pos hz
  have e2 : clQ o ps p = ps.map (fun x => nmP (clP p x)) := if_pos hz
  rw [e1, e2, hz]
  exact ⟨hB, A1, c1, l1, Ap1, cp1, rfl, hm, h1, h2, h3⟩
theorem cl_sound {o : List (Int × Int)} {ps : List Par} {p : Int × Int} (h : clE o ps p = 0) : chkQ o ps = true ∧ idlB (ringsQ ps) p = true ∧ cB ps p = true ∧ gd p = true ∧ PlanQ (nmL (repL o p [])) (ps.map fun x => nmP (clP p x)) := by
 unfold clE at h
 split at h
 ·cases h
 ·rename_i h1
  split at h
  ·cases h
  ·rename_i h2
   split at h
   ·cases h
   ·rename_i h3
    split at h
    ·cases h
    ·rename_i h4
     split at h
     ·cases h
     ·rename_i h5
      exact ⟨(Bool.not_eq_false _).mp h1, (Bool.not_eq_false _).mp h4, (Bool.not_eq_false _).mp h3, (Bool.not_eq_false _).mp h2, (chkQ_iff _ _).1 ((Bool.not_eq_false _).mp h5)⟩
theorem cl_small (o : List (Int × Int)) (ps : List Par) (p : Int × Int) : (clO o ps p).length ≤ 128 ∧ (clQ o ps p).length ≤ 64 := by
 unfold clO clQ
 by_cases h : clE o ps p = 0
 ·rw [if_pos h, if_pos h]
  exact ⟨(cl_sound h).2.2.2.2.outP.2.2, (cl_sound h).2.2.2.2.fine.2.2.2.1⟩
 ·rw [if_neg h, if_neg h]
  exact ⟨Nat.zero_le _, Nat.zero_le _⟩
theorem cl_rings {o : List (Int × Int)} {ps : List Par} {p : Int × Int} {l2 : List PV} (hm : l2.map PV.par = clQ o ps p) : ∀ x ∈ l2, x.par.ring.length ≤ 1000 := fun x hx => by
 have hx2 : x.par ∈ clQ o ps p := by rw [← hm]; exact List.mem_map_of_mem hx
 unfold clQ at hx2
 split at hx2
 ·rename_i h
  have := ((cl_sound h).2.2.2.2.ringP hx2).2.2
  omega
 ·cases hx2
end Go.Proofs.Ytfjfmieadedjoaa
