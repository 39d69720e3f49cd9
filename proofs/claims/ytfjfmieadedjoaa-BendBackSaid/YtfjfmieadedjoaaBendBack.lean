/- Plain: a corner that was moved can be moved back, and one that was put can be cleared. -/
import Derived.Test.YtfjfmieadedjoaaBendMoves
namespace Go.Proofs.Ytfjfmieadedjoaa
open Go.RowKit
theorem nx_ext {r s : List (Int × Int)} (hl : s.length = r.length) (h : ∀ i, i < r.length → nx s i = nx r i) : s = r :=
 List.ext_getElem hl fun i h1 h2 => by
  have := h i h2
  rwa [nx_lt h1, nx_lt h2] at this
theorem less_total {a b : Int × Int} (h1 : lessB a b = false) (h2 : lessB b a = false) : a = b := by
 unfold lessB at h1 h2
 simp only [Bool.or_eq_false_iff, Bool.and_eq_false_iff, decide_eq_false_iff_not] at h1 h2
 exact Prod.ext (by omega) (by omega)
theorem nm_turned {r s : List (Int × Int)} (hr : chE r = 0) (hn : Nrm r) (k : Nat) (hl : s.length = r.length) (hs : ∀ i, nx s i = nx r (i + k)) : nmL s = r := by
 obtain ⟨h0, h3⟩ := chE_zero.1 hr
 obtain ⟨a1, a2⟩ := arE_zero.1 h0
 have hpos : 0 < r.length := by have := h3.1; omega
 have hb := begins k hl hs
 have hch : chE s = 0 := chE_zero.2 ⟨arE_zero.2 ⟨by omega, gdL_iff.2 fun p hp => by
  obtain ⟨i, hi, rfl⟩ := List.getElem_of_mem hp
  rw [← nx_lt hi, hs]
  exact gdL_iff.1 a2 _ (nx_memC hpos _)⟩, hb.2.1.2 h3⟩
 rw [nmL_eq hch]
 have hnr := nrm_lstR s
 unfold lstR at hnr
 have hnx : ∀ i, nx (rotL s (leastI s s.length)) i = nx r (i + (leastI s s.length + k)) := fun i => by rw [nx_rotL _ _ _ (by omega), hs, Nat.add_assoc]
 have hlen : (rotL s (leastI s s.length)).length = r.length := by rw [rotL_length]; exact hl
 generalize hm : leastI s s.length + k = m at hnx
 generalize rotL s (leastI s s.length) = t at *
 have e0 : nx t 0 = nx r 0 := by
  refine less_total ?_ ?_
  ·exact nrm_mem hn (by rw [hnx]; exact nx_memC hpos _)
  ·refine nrm_mem hnr ?_
   have h1 : nx t (r.length - m % r.length) = nx r 0 := by
    rw [hnx]
    have := Nat.mod_lt m hpos
    have hd := Nat.div_add_mod m r.length
    have e : r.length - m % r.length + m = r.length * (m / r.length + 1) := by rw [Nat.mul_add]; omega
    unfold nx
    rw [e, Nat.mul_mod_right, Nat.zero_mod]
   rw [← h1]
   exact nx_memC (by omega) _
 rw [hnx, Nat.zero_add] at e0
 have hm0 : m % r.length = 0 := nx_inj h3 (Nat.mod_lt _ hpos) hpos (by rw [nx_mod]; exact e0)
 refine nx_ext hlen fun i hi => ?_
 rw [hnx]
 unfold nx
 rw [Nat.add_mod, hm0, Nat.add_zero, Nat.mod_mod]
theorem mem_nm {r : List (Int × Int)} (h : chE r = 0) {p : Int × Int} : p ∈ nmL r ↔ p ∈ r := by
 have h3 := (chE_zero.1 h).2.1
 rw [nmL_eq h]
 have hnx : ∀ i, nx (rotL r (leastI r r.length)) i = nx r (i + leastI r r.length) := fun i => nx_rotL _ _ _ (by omega)
 constructor
 ·intro hp
  obtain ⟨i, hi, rfl⟩ := List.getElem_of_mem hp
  rw [← nx_lt hi, hnx]
  exact nx_memC (by omega) _
 ·intro hp
  obtain ⟨i, hi, rfl⟩ := List.getElem_of_mem hp
  have hle := leastI_le r r.length
  have h1 : nx (rotL r (leastI r r.length)) (i + (r.length - leastI r r.length)) = r[i] := by
   rw [hnx, show i + (r.length - leastI r r.length) + leastI r r.length = i + r.length by omega, nx_per, nx_lt hi]
  rw [← h1]
  exact nx_memC (by rw [rotL_length]; omega) _
theorem ring_back {r : List (Int × Int)} {p q : Int × Int} (hr : chE r = 0) (hn : Nrm r) (hq : q ∉ r) (h1 : chE (repL r p [q]) = 0) : nmL (repL (nmL (repL r p [q])) q [p]) = r := by
 by_cases hp : p ∈ r
 ·rw [rep_set q hp] at h1 ⊢
  have hk := posL_lt hp
  have hpn := pos_nx hp
  have hs := (chE_zero.1 hr).2
  have hs1 := (chE_zero.1 h1).2
  have hl1 : (r.set (posL r p) q).length = r.length := List.length_set
  have hqm : q ∈ nmL (r.set (posL r p) q) := (mem_nm h1).2 (List.mem_iff_getElem.2 ⟨posL r p, by rw [hl1]; exact hk, by simp⟩)
  rw [rep_set p hqm]
  have hj := posL_lt hqm
  have hjq := pos_nx hqm
  rw [nmL_eq h1] at *
  have hnx : ∀ i, nx (rotL (r.set (posL r p) q) (leastI (r.set (posL r p) q) (r.set (posL r p) q).length)) i = nx (r.set (posL r p) q) (i + leastI (r.set (posL r p) q) (r.set (posL r p) q).length) := fun i => nx_rotL _ _ _ (by omega)
  have hlt : (rotL (r.set (posL r p) q) (leastI (r.set (posL r p) q) (r.set (posL r p) q).length)).length = r.length := by rw [rotL_length]; exact hl1
  have hnx1 : ∀ m, nx (r.set (posL r p) q) m = if m % r.length = posL r p then q else nx r m := fun m => by
   have hm := Nat.mod_lt m (show 0 < r.length by omega)
   rw [← nx_mod, hl1, nx_lt (by rw [hl1]; exact hm), List.getElem_set]
   by_cases e : posL r p = m % r.length
   ·rw [if_pos e, if_pos e.symm]
   ·rw [if_neg e, if_neg (fun h => e h.symm), ← nx_lt hm, nx_mod]
  generalize leastI (r.set (posL r p) q) (r.set (posL r p) q).length = k at *
  generalize rotL (r.set (posL r p) q) k = t at *
  have hjk : (posL t q + k) % r.length = posL r p := by
   have h2 := hnx (posL t q)
   rw [hjq, hnx1] at h2
   by_cases e : (posL t q + k) % r.length = posL r p
   ·exact e
   ·rw [if_neg e] at h2
    exact absurd (h2 ▸ nx_memC (by omega) _) hq
  refine nm_turned hr hn k (by rw [List.length_set]; exact hlt) fun i => ?_
  have hi := Nat.mod_lt i (show 0 < r.length by omega)
  rw [← nx_mod, List.length_set, hlt, nx_lt (by rw [List.length_set, hlt]; exact hi), List.getElem_set]
  by_cases e : posL t q = i % r.length
  ·rw [if_pos e]
   have : (i + k) % r.length = posL r p := by rw [← Nat.mod_add_mod, ← e]; exact hjk
   rw [← nx_mod, this, hpn]
  ·rw [if_neg e, ← nx_lt (by rw [hlt]; exact hi)]
   have h2 := hnx (i % r.length)
   rw [h2, hnx1]
   have hne : ¬ (i % r.length + k) % r.length = posL r p := fun h => by
    rw [← hjk] at h
    have h4 : nx (r.set (posL r p) q) (i % r.length + k) = nx (r.set (posL r p) q) (posL t q + k) := by unfold nx; rw [hl1, h]
    rw [← hnx, ← hnx] at h4
    have hst : Sound t := (begins (r := r.set (posL r p) q) (s := t) k (by rw [hlt, hl1]) hnx).2.1.2 hs1
    exact e (nx_inj hst (by rw [hlt]; exact hi) hj h4).symm
   rw [if_neg hne]
   unfold nx
   rw [Nat.mod_add_mod]
 ·rw [repL_out hp] at h1 ⊢
  rw [nm_nrm h1 hn, repL_out hq, nm_nrm hr hn]

theorem bm_parts {o : List (Int × Int)} {ps : List Par} {p q : Int × Int} (h : bmE o ps p q = 0) : chkQ o ps = true ∧ gd p = true ∧ gd q = true ∧ cB ps p = true ∧ p ∉ o ∧ cB ps q = false ∧ chkQ o (ps.map fun x => nmP (bmP p q x)) = true := by
 unfold bmE at h
 split at h
 ·cases h
 ·rename_i h1
  split at h
  ·cases h
  ·rename_i h2
   split at h
   ·cases h
   ·rename_i h3
    split at h
    ·cases h
    ·rename_i h4
     split at h
     ·cases h
     ·rename_i h5
      split at h
      ·cases h
      ·rename_i h6
       refine ⟨(Bool.not_eq_false _).mp h1, ?_, ?_, (Bool.not_eq_false _).mp h3, h4, (Bool.not_eq_true _).mp h5, (Bool.not_eq_false _).mp h6⟩
       ·cases hg : gd p
        ·exact absurd (.inl hg) h2
        ·rfl
       ·cases hg : gd q
        ·exact absurd (.inr hg) h2
        ·rfl
theorem mv_back {o : List (Int × Int)} {ps : List Par} {p q : Int × Int} (h : bmE o ps p q = 0) : bmE o (ps.map fun x => nmP (bmP p q x)) q p = 0 ∧ (ps.map fun x => nmP (bmP p q x)).map (fun x => nmP (bmP q p x)) = ps := by
 obtain ⟨h1, h2, h3, h4, h5, h6, h7⟩ := bm_parts h
 have hP := (chkQ_iff _ _).1 h1
 have hQ := (chkQ_iff _ _).1 h7
 have hnq : ∀ x ∈ ps, q ∉ x.ring := fun x hx hh => by
  have := cB_iff.2 ⟨x, hx, hh⟩
  rw [h6] at this
  cases this
 have hqo : q ∉ o := fun hq => by
  obtain ⟨r, hr, he⟩ := mem_edgs.1 (hP.fit.out _ (pv_edge hq))
  obtain ⟨x, hx, rfl⟩ := List.mem_map.1 hr
  exact hnq x hx (edge_pv (hP.fit.each _ hr) he).1
 have hch : ∀ x ∈ ps, chE (repL x.ring p [q]) = 0 := fun x hx => nm_sound (hQ.each _ (List.mem_map_of_mem (f := fun x => nmP (bmP p q x)) hx))
 have hmap : (ps.map fun x => nmP (bmP p q x)).map (fun x => nmP (bmP q p x)) = ps := by
  rw [List.map_map]
  refine (List.map_congr_left fun x hx => ?_).trans (List.map_id ps)
  obtain ⟨a1, a2⟩ := normP_iff.1 (hP.each x hx)
  have hb := ring_back a1 a2 (hnq x hx) (hch x hx)
  show (⟨x.id, nmL (repL (nmL (repL x.ring p [q])) q [p]), x.own⟩ : Par) = x
  rw [hb]
 refine ⟨?_, hmap⟩
 refine bm_ok h7 h3 h2 ?_ hqo ?_ (by rw [hmap]; exact h1)
 ·obtain ⟨x, hx, hp⟩ := cB_iff.1 h4
  exact cB_iff.2 ⟨_, List.mem_map_of_mem (f := fun x => nmP (bmP p q x)) hx, (mem_nm (hch x hx)).2 (by rw [repL_in hp]; simp)⟩
 ·cases hc : cB (ps.map fun x => nmP (bmP p q x)) p
  ·rfl
  ·exfalso
   obtain ⟨y, hy, hpy⟩ := cB_iff.1 hc
   obtain ⟨x, hx, rfl⟩ := List.mem_map.1 hy
   have hpr : p ∈ repL x.ring p [q] := (mem_nm (hch x hx)).1 hpy
   have hs := (chE_zero.1 (normP_iff.1 (hP.each x hx)).1).2
   by_cases hp : p ∈ x.ring
   ·rw [rep_set q hp] at hpr
    obtain ⟨m, hm, e⟩ := List.getElem_of_mem hpr
    rw [List.length_set] at hm
    rw [List.getElem_set] at e
    split at e
    ·exact hnq x hx (e ▸ hp)
    ·rename_i hne
     refine hne (nx_inj hs (posL_lt hp) hm ?_)
     rw [pos_nx hp, nx_lt hm]
     exact e.symm
   ·rw [repL_out hp] at hpr
    exact hp hpr
theorem mark_pos {r : List (Int × Int)} {k : Nat} (hk : k < r.length) {q : Int × Int} (hq : q ∉ r) : posL (mark r k q) q = k + 1 := by
 unfold mark
 rw [List.append_assoc, List.singleton_append, posL_app (fun h => hq (List.mem_of_mem_take h))]
 rw [List.length_take]
 omega
theorem mark_bs {r : List (Int × Int)} {k : Nat} (hk : k < r.length) {q : Int × Int} (hq : q ∉ r) : bsR (mark r k q) q = (nx r k, nx r (k + 1)) := by
 obtain ⟨n1, n2, n3⟩ := nx_mark hk q
 have hl := mark_length (p := q) hk
 unfold bsR pvR scR
 rw [mark_pos hk hq, hl, show k + 1 + (r.length + 1) - 1 = k + (r.length + 1) by omega]
 have e1 : nx (mark r k q) (k + (r.length + 1)) = nx (mark r k q) k := by rw [← hl, nx_per]
 rw [e1, n1 k (Nat.le_refl _), n3 (k + 1) (by omega) (by omega)]
theorem put_back {r : List (Int × Int)} {q : Int × Int} (hr : chE r = 0) (hn : Nrm r) (hq : q ∉ r) : nmL (repL (putC r q) q []) = r := by
 have key : repL (putC r q) q [] = r := by
  rcases putC_cases r q with e | ⟨k, hk, hi, e⟩
  ·rw [e, repL_out hq]
  ·have hm : q ∈ mark r k q := by unfold mark; simp
   rw [e, repL_in hm, mark_pos hk hq, List.append_nil]
   unfold mark
   have hl : (r.take (k + 1) ++ [q]).length = k + 2 := by rw [List.length_append, List.length_take]; simp; omega
   rw [List.take_append_of_le_length (by omega), List.take_append_of_le_length (by rw [List.length_take]; omega), List.take_take, Nat.min_self]
   rw [show k + 1 + 1 = (r.take (k + 1) ++ [q]).length by omega, List.drop_left, List.take_append_drop]
 rw [key, nm_nrm hr hn]
theorem mk_back {o : List (Int × Int)} {ps : List Par} {q : Int × Int} (h : mkE o ps q = 0) : chkQ o ps = true ∧ clE (putC o q) (ps.map (ptP q)) q = 0 ∧ nmL (repL (putC o q) q []) = o ∧ (ps.map (ptP q)).map (fun x => nmP (clP q x)) = ps := by
 obtain ⟨h1, h2, h3, h4, h5⟩ : chkQ o ps = true ∧ gd q = true ∧ cB ps q = false ∧ edB ps q = true ∧ chkQ (putC o q) (ps.map (ptP q)) = true := by
  unfold mkE at h
  split at h
  ·cases h
  ·rename_i h1
   split at h
   ·cases h
   ·rename_i h2
    split at h
    ·cases h
    ·rename_i h3
     split at h
     ·cases h
     ·rename_i h4
      split at h
      ·cases h
      ·rename_i h5
       exact ⟨(Bool.not_eq_false _).mp h1, (Bool.not_eq_false _).mp h2, (Bool.not_eq_true _).mp h3, (Bool.not_eq_false _).mp h4, (Bool.not_eq_false _).mp h5⟩
 have hP := (chkQ_iff _ _).1 h1
 have hQ := (chkQ_iff _ _).1 h5
 have hnq : ∀ x ∈ ps, q ∉ x.ring := fun x hx hh => by
  have := cB_iff.2 ⟨x, hx, hh⟩
  rw [h3] at this
  cases this
 have hqo : q ∉ o := fun hq => by
  obtain ⟨r, hr, he⟩ := mem_edgs.1 (hP.fit.out _ (pv_edge hq))
  obtain ⟨x, hx, rfl⟩ := List.mem_map.1 hr
  exact hnq x hx (edge_pv (hP.fit.each _ hr) he).1
 have ho := normP_iff.1 hP.out
 have e1 : nmL (repL (putC o q) q []) = o := put_back ho.1 ho.2 hqo
 have e2 : (ps.map (ptP q)).map (fun x => nmP (clP q x)) = ps := by
  rw [List.map_map]
  refine (List.map_congr_left fun x hx => ?_).trans (List.map_id ps)
  obtain ⟨a1, a2⟩ := normP_iff.1 (hP.each x hx)
  have hb := put_back a1 a2 (hnq x hx)
  show (⟨x.id, nmL (repL (putC x.ring q) q []), x.own⟩ : Par) = x
  rw [hb]
 have hsound : ∀ x ∈ ps, Sound x.ring := fun x hx => (chE_zero.1 (normP_iff.1 (hP.each x hx)).1).2
 have hcb : cB (ps.map (ptP q)) q = true := (ed_put hsound h3).trans h4
 have hall : ∀ r ∈ putC o q :: ringsQ (ps.map (ptP q)), q ∈ r → ∃ e, e ∈ edgs (ringsQ ps) ∧ Ins e.1 e.2 q ∧ bsR r q = e := fun r hr hq => by
  obtain ⟨r0, hr0, hq0, rfl⟩ : ∃ r0, (∀ e ∈ edg r0, e ∈ edgs (ringsQ ps)) ∧ q ∉ r0 ∧ r = putC r0 q := by
   rcases List.mem_cons.1 hr with rfl | hr
   ·exact ⟨o, fun e he => hP.fit.out e he, hqo, rfl⟩
   ·obtain ⟨y, hy, rfl⟩ := List.mem_map.1 hr
    obtain ⟨x, hx, rfl⟩ := List.mem_map.1 hy
    exact ⟨x.ring, fun e he => mem_edgs.2 ⟨_, List.mem_map_of_mem hx, he⟩, hnq x hx, rfl⟩
  rcases putC_cases r0 q with e | ⟨k, hk, hi, e⟩
  ·rw [e] at hq
   exact absurd hq hq0
  ·rw [e]
   exact ⟨_, hr0 _ (mem_edg.2 ⟨k, hk, rfl⟩), hi, mark_bs hk hq0⟩
 have hid : idlB (ringsQ (ps.map (ptP q))) q = true := (idle_doc hQ.fit (by
  obtain ⟨x, hx, hp⟩ := cB_iff.1 hcb
  exact ⟨_, List.mem_map_of_mem hx, hp⟩)).2 fun r hr s hs hqr hqs => by
   obtain ⟨e, he, hi, hbe⟩ := hall r hr hqr
   obtain ⟨f, hf, hj, hbf⟩ := hall s hs hqs
   have m1 : ∀ a : Int × Int, mulp 1 a = a := fun a => by unfold mulp; simp
   refine ⟨?_, ?_⟩
   ·have hb1 : pvR r q = e.1 := congrArg Prod.fst hbe
    have hb2 : scR r q = e.2 := congrArg Prod.snd hbe
    rw [hb1, hb2]
    exact onB_iff.2 hi.1
   ·rw [hbe, hbf]
    exact hP.fit.same hf he (M := 1) (by decide) (z := q) (by rw [m1, m1]; exact hj) (by rw [m1, m1]; exact hi.1)
 exact ⟨h1, cl_ok h5 h2 hcb hid (by rw [e1, e2]; exact h1), e1, e2⟩
end Go.Proofs.Ytfjfmieadedjoaa

namespace Go.Proofs.Ytfjfmieadedjoaa
open Go.RowKit
theorem par_rings {l l' : List PV} (h : l'.map PV.par = l.map PV.par) (hr : ∀ x ∈ l.map PV.par, x.ring.length ≤ 1000) : ∀ x ∈ l', x.par.ring.length ≤ 1000 := fun x hx => hr x.par (by rw [← h]; exact List.mem_map_of_mem hx)
theorem move_back {o : List (Int × Int)} {ps : List Par} {p q : Int × Int} (hop : ∀ x ∈ ps, x.own.size ≤ maxLen) (h : bmE o ps p q = 0) (A1 : Option Addr) (c1 : Nat) (l1 : List PV) (Ap1 : Option Addr) (cp1 : Nat) (W : World) (hm : l1.map PV.par = mvQ o ps p q) (hp : PlanAt W (mvO o ps p q) A1 c1 l1 Ap1 cp1) :
  Calls Try.prog 6 #[.agg #[.slice A1 (mvO o ps p q).length c1, .slice Ap1 l1.length cp1], .agg #[.int .i64 q.1, .int .i64 q.2], .agg #[.int .i64 p.1, .int .i64 p.2]] W fun e w' => MkAns W w' o ps 0 e := by
 obtain ⟨b1, b2⟩ := mv_back h
 have hs := mv_small o ps p q
 have e1 : mvO o ps p q = o := if_pos h
 have e2 : mvQ o ps p q = ps.map (fun x => nmP (bmP p q x)) := if_pos h
 have hl : l1.length ≤ 64 := by
  have := congrArg List.length hm
  rw [List.length_map] at this
  omega
 have hx := Move_any (mvO o ps p q) A1 c1 l1 Ap1 cp1 q p (by omega) (by omega) (fun x hx => by
  have h1 : x.par ∈ mvQ o ps p q := by rw [← hm]; exact List.mem_map_of_mem hx
  rw [e2] at h1
  obtain ⟨y, hy, e⟩ := List.mem_map.1 h1
  rw [← e]
  exact hop y hy) W hp
 refine hx.mono fun e w' hh => ?_
 have h2 := hh.ans
 rw [hm, e1, e2] at h2
 have e3 : mvO o (ps.map (fun x => nmP (bmP p q x))) q p = o := if_pos b1
 have e4 : mvQ o (ps.map (fun x => nmP (bmP p q x))) q p = ps := (if_pos b1).trans b2
 rw [e3, e4, b1] at h2
 exact h2
theorem clear_back {o : List (Int × Int)} {ps : List Par} {q : Int × Int} (hop : ∀ x ∈ ps, x.own.size ≤ maxLen) (h : mkE o ps q = 0) (A1 : Option Addr) (c1 : Nat) (l1 : List PV) (Ap1 : Option Addr) (cp1 : Nat) (W : World) (hm : l1.map PV.par = mkP o ps q) (hp : PlanAt W (mkO o ps q) A1 c1 l1 Ap1 cp1) :
  Calls Try.prog 10 #[.agg #[.slice A1 (mkO o ps q).length c1, .slice Ap1 l1.length cp1], .agg #[.int .i64 q.1, .int .i64 q.2]] W fun e w' => MkAns W w' o ps 0 e := by
 obtain ⟨-, b1, b2, b3⟩ := mk_back h
 have hs := mk_small o ps q
 have e1 : mkO o ps q = putC o q := if_pos h
 have e2 : mkP o ps q = ps.map (ptP q) := if_pos h
 have hl : l1.length ≤ 64 := by
  have := congrArg List.length hm
  rw [List.length_map] at this
  omega
 have hx := Clear_any (mkO o ps q) A1 c1 l1 Ap1 cp1 q (by omega) (by omega) (fun x hx => by
  have h1 : x.par ∈ mkP o ps q := by rw [← hm]; exact List.mem_map_of_mem hx
  rw [e2] at h1
  obtain ⟨y, hy, e⟩ := List.mem_map.1 h1
  rw [← e]
  exact hop y hy) W hp
 refine hx.mono fun e w' hh => ?_
 have h2 := hh.ans
 rw [hm, e1, e2] at h2
 have e3 : clO (putC o q) (ps.map (ptP q)) q = o := (if_pos b1).trans b2
 have e4 : clQ (putC o q) (ps.map (ptP q)) q = ps := (if_pos b1).trans b3
 rw [e3, e4, b1] at h2
 exact h2
set_option maxRecDepth 100000 in
set_option maxHeartbeats 20000000 in
theorem back_walk (o : List (Int × Int)) (Ao : Option Addr) (co : Nat) (l : List PV) (Ap : Option Addr) (cp : Nat) (p q : Int × Int) (hown : ∀ x ∈ l, x.par.own.size ≤ maxLen) (w : World) (h : PlanAt w o Ao co l Ap cp) :
  Calls Try.prog 3 #[.agg #[.slice Ao o.length co, .slice Ap l.length cp], .agg #[.int .i64 p.1, .int .i64 p.2], .agg #[.int .i64 q.1, .int .i64 q.2]] w fun e w' => e = .returned (.bool true) ∧ Below w.heap.size w w' := by
 have HAN := Lib.hid (fun W => bend_answers W)
 have HFW := Lib.hid (fun K W (hh : Hold w K W) => few8_any o Ao co l Ap cp (by have := h.room; omega) W (h.prs.on hh.1))
 have HOWX := Lib.hid (fun (hl : l.length ≤ 80) W (hb : Below w.heap.size w W) => Own_own o Ao co l Ap cp (by omega) W (h.on hb))
 have HMKX : Hid (l.length ≤ 80 → ∀ (A1 : Option Addr) (c1 : Nat) (l' : List PV) (Ap1 : Option Addr) (cp1 : Nat) (W : World), l'.map PV.par = l.map PV.par → PlanAt W o A1 c1 l' Ap1 cp1 → Calls Try.prog 6 #[.agg #[.slice A1 o.length c1, .slice Ap1 l.length cp1], .agg #[.int .i64 p.1, .int .i64 p.2], .agg #[.int .i64 q.1, .int .i64 q.2]] W fun e w' => MkAns W w' (mvO o (l.map PV.par) p q) (mvQ o (l.map PV.par) p q) (bmE o (l.map PV.par) p q) e) := fun hl A1 c1 l' Ap1 cp1 W hm hp => by
  have hlen : l'.length = l.length := par_len hm
  have hx := Move_any o A1 c1 l' Ap1 cp1 p q (by omega) (by have := h.room; omega) (own_par hm hown) W hp
  rw [hlen, hm] at hx
  exact hx.mono fun e w' hh => hh.ans
 have HSM := Lib.hid (mv_small o (l.map PV.par) p q)
 have HRG := Lib.hid (fun (l2 : List PV) (hm : l2.map PV.par = mvQ o (l.map PV.par) p q) => mv_rings hm)
 have hop : ∀ x ∈ l.map PV.par, x.own.size ≤ maxLen := fun x hx => by
  obtain ⟨y, hy, rfl⟩ := List.mem_map.1 hx
  exact hown y hy
 have HMK2X : Hid (l.length ≤ 80 → ∀ (A1 : Option Addr) (c1 : Nat) (l' : List PV) (Ap1 : Option Addr) (cp1 : Nat) (W : World), l'.map PV.par = l.map PV.par → PlanAt W o A1 c1 l' Ap1 cp1 → Calls Try.prog 9 #[.agg #[.slice A1 o.length c1, .slice Ap1 l.length cp1], .agg #[.int .i64 q.1, .int .i64 q.2]] W fun e w' => MkAns W w' (mkO o (l.map PV.par) q) (mkP o (l.map PV.par) q) (mkE o (l.map PV.par) q) e) := fun hl A1 c1 l' Ap1 cp1 W hm hp => by
  have hlen : l'.length = l.length := par_len hm
  have hx := Mark_any o A1 c1 l' Ap1 cp1 q (by omega) (by have := h.room; omega) (own_par hm hown) W hp
  rw [hlen, hm] at hx
  exact hx.mono fun e w' hh => hh.ans
 have HSM2 := Lib.hid (mk_small o (l.map PV.par) q)
 have HRG2 := Lib.hid (fun (l2 : List PV) (hm : l2.map PV.par = mkP o (l.map PV.par) q) => mk_rings hm)
 have HMB := Lib.hid (fun (he : bmE o (l.map PV.par) p q = 0) A1 c1 l1 Ap1 cp1 W hm hp => move_back hop he A1 c1 l1 Ap1 cp1 W hm hp)
 have HCB := Lib.hid (fun (he : mkE o (l.map PV.par) q = 0) A1 c1 l1 Ap1 cp1 W hm hp => clear_back hop he A1 c1 l1 Ap1 cp1 W hm hp)
 have HLX : Hid (bmE o (l.map PV.par) p q = 0 ∨ mkE o (l.map PV.par) q = 0 → ∀ x ∈ l.map PV.par, x.ring.length ≤ 1000) := fun hd x hx => by
  have hP : PlanQ o (l.map PV.par) := by
   rcases hd with hd | hd
   ·exact (chkQ_iff _ _).1 (bm_parts hd).1
   ·exact (chkQ_iff _ _).1 (mk_back hd).1
  have := (hP.ringP hx).2.2
  omega
 have HOR : Hid (o.length ≤ 8796093022208) := by have := h.room; unfold Hid; omega
 have HPL := Lib.hid (fun W (hb : Below w.heap.size w W) => h.on hb)
 have HQ := (((Hold.refl w).new #[.slice Ao o.length co, .slice Ap l.length cp] 26).new' #[.int .i64 p.1, .int .i64 p.2] 28 (n := w.heap.size + 1) (by simp)).new' #[.int .i64 q.1, .int .i64 q.2] 28 (n := w.heap.size + 1 + 1) (by simp)
 clear h hown hop
 generalize mvO o (l.map PV.par) p q = on at *
 generalize mvQ o (l.map PV.par) p q = qs at *
 generalize bmE o (l.map PV.par) p q = er at *
 generalize mkO o (l.map PV.par) q = on2 at *
 generalize mkP o (l.map PV.par) q = qs2 at *
 generalize mkE o (l.map PV.par) q = er2 at *
 go_enter Try.func3, Try.ntmps3
 go_upto_region 1 with (fail)
 generalize (World.alloc _ _) = W1 at HQ ⊢
 generalize w.heap.size + 1 + 1 = g5 at HQ ⊢
 generalize w.heap.size + 1 = g4 at HQ ⊢
 obtain ⟨g3, hg3⟩ : ∃ g, w.heap.size = g := ⟨_, rfl⟩
 rw [hg3] at HQ ⊢
 have HG3 := Lib.hid hg3
 clear hg3
 have HQ1 := Lib.hid HQ
 clear HQ
 go_wp2_with fail
 go_at_call 4
 refine (HAN.out _).mono ?_
 rintro e' W2 ⟨rfl, hB⟩
 have hq2 := HQ1.out.on hB
 obtain ⟨c0, c1⟩ := hq2.pt (.tail _ (.tail _ (.head _)))
 have HQ2 := Lib.hid hq2
 clear hB hq2
 go_wp2_with fail
 go_at_call 5
 refine (HFW.out _ _ HQ2.out).mono ?_
 rintro e' W3 ⟨b, rfl, hb80, hB⟩
 have HQ3 := Lib.hid (HQ2.out.on hB)
 have HB80 := Lib.hid hb80
 clear c0 c1 hB hb80 HFW
 cases b
 ·go_wp2_with fail
  go_at_call 4
  refine (HAN.out _).mono ?_
  rintro e' W8 ⟨rfl, hB⟩
  have HQ8 := Lib.hid (HQ3.out.on hB)
  clear hB
  go_wp2
  go_ret
  exact ⟨rfl, HG3.out ▸ HQ8.out.1⟩
 ·have hbb := HB80.out (by first | trivial | rfl)
  have HOW := Lib.hid (HOWX.out hbb.2.2)
  have HMK := Lib.hid (HMKX.out hbb.2.2)
  have HMK2 := Lib.hid (HMK2X.out hbb.2.2)
  have HL80 := Lib.hid hbb.2.2
  have HO300 := Lib.hid hbb.1
  clear HB80 hbb HOWX HMKX HMK2X HAN
  go_upto_region 3 with (fail)
  go_cut [7, 8] (fun s5 s6 wx => ∃ g7 A2 c2 l2 Ap2 cp2, s5 = .pointer (some ⟨g7, 0, none⟩) ∧ s6 = .int .i64 er ∧ l2.map PV.par = qs ∧ Og w A2 on c2 Ap2 l2.length l2 cp2 g7 [(g5, #[.int .i64 q.1, .int .i64 q.2], 28), (g4, #[.int .i64 p.1, .int .i64 p.2], 28), (g3, #[.slice Ao o.length co, .slice Ap l.length cp], 26)] wx)
  case first =>
   as_aux_lemma =>
    have h1 := HQ3.out.drew
    clear HSM HRG HPL HMK2 HSM2 HRG2 HMB HCB
    refine wp_region_held_drew (S := fun W => W.cell? ⟨g3, 0, none⟩ = some (.slice Ao o.length co) ∧ W.cell? ⟨g3, 1, none⟩ = some (.slice Ap l.length cp) ∧ W.cell? ⟨g4, 0, none⟩ = some (.int .i64 p.1) ∧ W.cell? ⟨g4, 1, none⟩ = some (.int .i64 p.2) ∧ W.cell? ⟨g5, 0, none⟩ = some (.int .i64 q.1) ∧ W.cell? ⟨g5, 1, none⟩ = some (.int .i64 q.2)) (by kernel_rfl) ?_ (fun hHeld => ?_)
    ·(try dsimp only)
     exact Hold.rd3 h1
    refine tZ 0 ?_; refine tZ 2 ?_; refine tZ 3 ?_
    generalize (World.drew _) = Wd at h1 hHeld ⊢
    refine wpAnyH_ready (rs := [1, 8]) (by decide +kernel) (by simp) ?_
    refine AllReadyH.cons rfl (fun K hK => ?_) (AllReadyH.cons rfl (fun K hK => ?_) AllReadyH.nil)
    ·(try simp only [jA, jB, jC])
     go_simp
     go_at_call 7
     refine (HOW.out _ h1.1).mono ?_
     rintro e' Wa ⟨hBa, A1, c1, l', Ap1, cp1, rfl, hm, hpa, -⟩
     have h2 := h1.on hBa
     refine hK.out _ _ ?_ (fun hHeld => ?_)
     focus ((try dsimp only); exact Hold.rd3 h2; done)
     clear hK K
     (try simp only [Act.put, jA, jB, jC, jD, jE, jF])
     refine wpAnyH_ready (rs := [4, 8]) (by decide +kernel) (by simp) ?_
     refine AllReadyH.cons rfl (fun K hK => ?_) (AllReadyH.cons rfl (fun K hK => ?_) AllReadyH.nil)
     ·(try simp only [jA, jB, jC])
      go_simp
      go_at_call 6
      refine (HMK.out A1 c1 l' Ap1 cp1 _ hm hpa).mono ?_
      rintro e' Wb ⟨hBb, A2, c2, l2, Ap2, cp2, rfl, hm2, r1, r2, r3⟩
      have h3 := h2.on hBb
      have r1 := r1.base h2.1
      have r2 := RowI.base r2 h2.1
      have r3 := OwnRs.base r3 h2.1
      refine hK.out _ _ ?_ (fun hHeld => ?_)
      focus ((try dsimp only); exact Hold.rd3 h3; done)
      clear hK K
      (try simp only [Act.put, jA, jB, jC, jD, jE, jF])
      refine tZ 5 ?_; refine tZ 6 ?_; refine tZ 7 ?_
      refine wpAnyH_ready (rs := [8]) (by decide +kernel) (by simp) ?_
      refine AllReadyH.cons rfl (fun K hK => ?_) AllReadyH.nil
      have h4 := h3.new #[.slice none 0 0, .slice none 0 0] 26
      have hbah4 := (Below.refl Wb.heap.size Wb).alloc (Nat.le_refl _) (Obj.cells #[.slice none 0 0, .slice none 0 0] 26 (0, 0))
      have r1 := r1.on hbah4
      have r2 := r2.on hbah4
      have r3 := r3.on hbah4
      (try simp only [jA, jB, jC])
      go_simp
      refine hK.out _ _ ?_ (fun hHeld => ?_)
      focus ((try dsimp only); exact Hold.rd3 h4.tail; done)
      clear hK K
      (try simp only [Act.put, jA, jB, jC, jD, jE, jF])
      clear hbah4
      generalize (World.alloc _ _) = Wc at h4 r1 r2 r3 hHeld ⊢
      generalize Wb.heap.size = g7 at h4 ⊢
      obtain ⟨y0, y1⟩ := h4.pt (.head _)
      obtain ⟨z0, z1⟩ := h4.fz (.head _)
      have hog := Og.mkSet h4 r1 r2 r3
      refine wpAnyH_ready (rs := [9]) (by decide +kernel) (by simp) ?_
      refine AllReadyH.cons rfl (fun K hK => ?_) AllReadyH.nil
      (try simp only [jA, jB, jC])
      go_simp
      refine hK.out _ _ ?_ (fun hHeld => ?_)
      focus ((try dsimp only); exact Hold.rd3 hog.hold.tail; done)
      clear hK K
      (try simp only [Act.put, jA, jB, jC, jD, jE, jF])
      refine tZ 10 ?_
      refine wpAnyH_done (by decide +kernel) ?_ _
      go_wp2_with fail
      go_meet
      exact ⟨_, A2, c2, l2, Ap2, cp2, rfl, rfl, hm2, hog⟩
     ·have h3 := h2.new #[.slice none 0 0, .slice none 0 0] 26
      have hbah3 := (Below.refl Wa.heap.size Wa).alloc (Nat.le_refl _) (Obj.cells #[.slice none 0 0, .slice none 0 0] 26 (0, 0))
      have hpa := hpa.on hbah3
      (try simp only [jA, jB, jC])
      go_simp
      refine hK.out _ _ ?_ (fun hHeld => ?_)
      focus ((try dsimp only); exact Hold.rd3 h3.tail; done)
      clear hK K
      (try simp only [Act.put, jA, jB, jC, jD, jE, jF])
      clear hbah3
      generalize (World.alloc _ _) = Wb at h3 hpa hHeld ⊢
      generalize Wa.heap.size = g7 at h3 ⊢
      refine wpAnyH_ready (rs := [4]) (by decide +kernel) (by simp) ?_
      refine AllReadyH.cons rfl (fun K hK => ?_) AllReadyH.nil
      (try simp only [jA, jB, jC])
      go_simp
      go_at_call 6
      refine (HMK.out A1 c1 l' Ap1 cp1 _ hm hpa).mono ?_
      rintro e' Wc ⟨hBb, A2, c2, l2, Ap2, cp2, rfl, hm2, r1, r2, r3⟩
      have h4 := h3.on hBb
      have r1 := r1.base h3.1
      have r2 := RowI.base r2 h3.1
      have r3 := OwnRs.base r3 h3.1
      refine hK.out _ _ ?_ (fun hHeld => ?_)
      focus ((try dsimp only); exact Hold.rd3 h4.tail; done)
      clear hK K
      (try simp only [Act.put, jA, jB, jC, jD, jE, jF])
      refine tZ 5 ?_; refine tZ 6 ?_; refine tZ 7 ?_
      obtain ⟨y0, y1⟩ := h4.pt (.head _)
      obtain ⟨z0, z1⟩ := h4.fz (.head _)
      have hog := Og.mkSet h4 r1 r2 r3
      refine wpAnyH_ready (rs := [9]) (by decide +kernel) (by simp) ?_
      refine AllReadyH.cons rfl (fun K hK => ?_) AllReadyH.nil
      (try simp only [jA, jB, jC])
      go_simp
      refine hK.out _ _ ?_ (fun hHeld => ?_)
      focus ((try dsimp only); exact Hold.rd3 hog.hold.tail; done)
      clear hK K
      (try simp only [Act.put, jA, jB, jC, jD, jE, jF])
      refine tZ 10 ?_
      refine wpAnyH_done (by decide +kernel) ?_ _
      go_wp2_with fail
      go_meet
      exact ⟨_, A2, c2, l2, Ap2, cp2, rfl, rfl, hm2, hog⟩
    ·have h2 := h1.new #[.slice none 0 0, .slice none 0 0] 26
     have hbah2 := (Below.refl Wd.heap.size Wd).alloc (Nat.le_refl _) (Obj.cells #[.slice none 0 0, .slice none 0 0] 26 (0, 0))
     (try simp only [jA, jB, jC])
     go_simp
     refine hK.out _ _ ?_ (fun hHeld => ?_)
     focus ((try dsimp only); exact Hold.rd3 h2.tail; done)
     clear hK K
     (try simp only [Act.put, jA, jB, jC, jD, jE, jF])
     clear hbah2
     generalize (World.alloc _ _) = We at h2 hHeld ⊢
     generalize Wd.heap.size = g7 at h2 ⊢
     refine wpAnyH_ready (rs := [1]) (by decide +kernel) (by simp) ?_
     refine AllReadyH.cons rfl (fun K hK => ?_) AllReadyH.nil
     (try simp only [jA, jB, jC])
     go_simp
     go_at_call 7
     refine (HOW.out _ h2.1).mono ?_
     rintro e' Wf ⟨hBa, A1, c1, l', Ap1, cp1, rfl, hm, hpa, -⟩
     have h3 := h2.on hBa
     refine hK.out _ _ ?_ (fun hHeld => ?_)
     focus ((try dsimp only); exact Hold.rd3 h3.tail; done)
     clear hK K
     (try simp only [Act.put, jA, jB, jC, jD, jE, jF])
     refine wpAnyH_ready (rs := [4]) (by decide +kernel) (by simp) ?_
     refine AllReadyH.cons rfl (fun K hK => ?_) AllReadyH.nil
     (try simp only [jA, jB, jC])
     go_simp
     go_at_call 6
     refine (HMK.out A1 c1 l' Ap1 cp1 _ hm hpa).mono ?_
     rintro e' Wg ⟨hBb, A2, c2, l2, Ap2, cp2, rfl, hm2, r1, r2, r3⟩
     have h4 := h3.on hBb
     have r1 := r1.base h3.1
     have r2 := RowI.base r2 h3.1
     have r3 := OwnRs.base r3 h3.1
     refine hK.out _ _ ?_ (fun hHeld => ?_)
     focus ((try dsimp only); exact Hold.rd3 h4.tail; done)
     clear hK K
     (try simp only [Act.put, jA, jB, jC, jD, jE, jF])
     refine tZ 5 ?_; refine tZ 6 ?_; refine tZ 7 ?_
     obtain ⟨y0, y1⟩ := h4.pt (.head _)
     obtain ⟨z0, z1⟩ := h4.fz (.head _)
     have hog := Og.mkSet h4 r1 r2 r3
     refine wpAnyH_ready (rs := [9]) (by decide +kernel) (by simp) ?_
     refine AllReadyH.cons rfl (fun K hK => ?_) AllReadyH.nil
     (try simp only [jA, jB, jC])
     go_simp
     refine hK.out _ _ ?_ (fun hHeld => ?_)
     focus ((try dsimp only); exact Hold.rd3 hog.hold.tail; done)
     clear hK K
     (try simp only [Act.put, jA, jB, jC, jD, jE, jF])
     refine tZ 10 ?_
     refine wpAnyH_done (by decide +kernel) ?_ _
     go_wp2_with fail
     go_meet
     exact ⟨_, A2, c2, l2, Ap2, cp2, rfl, rfl, hm2, hog⟩
  case rest =>
   clear HMK
   obtain ⟨g7, A2, c2, l2, Ap2, cp2, rfl, rfl, hm2, hog⟩ := hcut
   generalize hWc : wc = W4 at *
   clear hWc
   by_cases hz : er = 0
   ·have hpl2 := hog.plan rfl (by have := HSM.out.1; omega) (HRG.out l2 hm2)
    have HCX := Lib.hid (HMB.out hz A2 c2 l2 Ap2 cp2 _ hm2 hpl2)
    have HLQ := Lib.hid (HLX.out (.inl hz))
    subst hz
    have HOG := Lib.hid hog
    obtain ⟨c0, c1⟩ := hog.hold.pt (.head _)
    obtain ⟨d0, d1⟩ := hog.hold.pt (.tail _ (.head _))
    obtain ⟨x0, x1⟩ := hog.hold.pt (.tail _ (.tail _ (.head _)))
    clear hog hm2 hpl2 HMB HSM HRG HLX
    go_upto_region 6 with (go_at_call 6; go_must (refine HCX.out.mono ?_; rintro e' W5 ⟨hB5, A3, c3, l3, Ap3, cp3, rfl, hm3, r1, r2, r3⟩; have hog7 := HOG.out.on hB5; have hoh := Og.mkNew hog7.hold (r1.base HOG.out.hold.1) (RowI.base r2 HOG.out.hold.1) (OwnRs.base r3 HOG.out.hold.1); have HM3 := Lib.hid hm3; clear hB5 hog7 hm3 r1 r2 r3))
    clear c0 c1 d0 d1 x0 x1
    generalize (World.alloc _ _) = W6 at hoh ⊢
    generalize (World.heap _).size = gX at hoh ⊢
    have hlen3 : l3.length = l.length := par_len HM3.out
    have hpl3 := hoh.plan rfl (by have := HO300.out; omega) (par_rings HM3.out HLQ.out)
    have hplP := HPL.out _ hoh.hold.1
    have hx := ref_samePlan o o A3 c3 l3 Ap3 cp3 Ao co l Ap cp (by have := HO300.out; unfold maxLen; omega) (by have := HL80.out; omega) _ hpl3.prs hplP.prs hpl3.out hplP.out
    rw [show decide (o = o ∧ l3.map PV.par = l.map PV.par) = true from decide_eq_true ⟨rfl, HM3.out⟩] at hx
    have HSA := Lib.hid hx
    obtain ⟨c0, c1⟩ := hoh.hold.pt (.head _)
    obtain ⟨d0, d1⟩ := hoh.hold.pt (.tail _ (.tail _ (.tail _ (.tail _ (.head _)))))
    have HQX := Lib.hid hoh.hold.tail.tail
    clear hlen3 hpl3 hplP hx hoh HOG HCX HM3
    go_wp2_with fail
    go_at_call 8
    refine HSA.out.mono ?_
    rintro e' W8 ⟨rfl, hB⟩
    have HQS := Lib.hid (HQX.out.on hB)
    clear hB c0 c1 d0 d1 HSA HQX
    go_upto_region 8 with (fail)
    go_cut [11, 12] (fun s5 s6 wx => ∃ g7 A2 c2 l2 Ap2 cp2, s5 = .pointer (some ⟨g7, 0, none⟩) ∧ s6 = .int .i64 er2 ∧ l2.map PV.par = qs2 ∧ Og w A2 on2 c2 Ap2 l2.length l2 cp2 g7 [(g5, #[.int .i64 q.1, .int .i64 q.2], 28), (g4, #[.int .i64 p.1, .int .i64 p.2], 28), (g3, #[.slice Ao o.length co, .slice Ap l.length cp], 26)] wx)
    case first =>
     as_aux_lemma =>
      have h1 := HQS.out.drew
      clear HPL HSM2 HRG2 HCB
      refine wp_region_held_drew (S := fun W => W.cell? ⟨g3, 0, none⟩ = some (.slice Ao o.length co) ∧ W.cell? ⟨g3, 1, none⟩ = some (.slice Ap l.length cp) ∧ W.cell? ⟨g4, 0, none⟩ = some (.int .i64 p.1) ∧ W.cell? ⟨g4, 1, none⟩ = some (.int .i64 p.2) ∧ W.cell? ⟨g5, 0, none⟩ = some (.int .i64 q.1) ∧ W.cell? ⟨g5, 1, none⟩ = some (.int .i64 q.2)) (by kernel_rfl) ?_ (fun hHeld => ?_)
      ·(try dsimp only)
       exact Hold.rd3 h1
      refine tZ 0 ?_; refine tZ 2 ?_
      generalize (World.drew _) = Wd at h1 hHeld ⊢
      refine wpAnyH_ready (rs := [1, 7]) (by decide +kernel) (by simp) ?_
      refine AllReadyH.cons rfl (fun K hK => ?_) (AllReadyH.cons rfl (fun K hK => ?_) AllReadyH.nil)
      ·(try simp only [jA, jB, jC])
       go_simp
       go_at_call 7
       refine (HOW.out _ h1.1).mono ?_
       rintro e' Wa ⟨hBa, A1, c1, l', Ap1, cp1, rfl, hm, hpa, -⟩
       have h2 := h1.on hBa
       refine hK.out _ _ ?_ (fun hHeld => ?_)
       focus ((try dsimp only); exact Hold.rd3 h2; done)
       clear hK K
       (try simp only [Act.put, jA, jB, jC, jD, jE, jF])
       refine wpAnyH_ready (rs := [3, 7]) (by decide +kernel) (by simp) ?_
       refine AllReadyH.cons rfl (fun K hK => ?_) (AllReadyH.cons rfl (fun K hK => ?_) AllReadyH.nil)
       ·(try simp only [jA, jB, jC])
        go_simp
        go_at_call 9
        refine (HMK2.out A1 c1 l' Ap1 cp1 _ hm hpa).mono ?_
        rintro e' Wb ⟨hBb, A2, c2, l2, Ap2, cp2, rfl, hm2, r1, r2, r3⟩
        have h3 := h2.on hBb
        have r1 := r1.base h2.1
        have r2 := RowI.base r2 h2.1
        have r3 := OwnRs.base r3 h2.1
        refine hK.out _ _ ?_ (fun hHeld => ?_)
        focus ((try dsimp only); exact Hold.rd3 h3; done)
        clear hK K
        (try simp only [Act.put, jA, jB, jC, jD, jE, jF])
        refine tZ 4 ?_; refine tZ 5 ?_; refine tZ 6 ?_
        refine wpAnyH_ready (rs := [7]) (by decide +kernel) (by simp) ?_
        refine AllReadyH.cons rfl (fun K hK => ?_) AllReadyH.nil
        have h4 := h3.new #[.slice none 0 0, .slice none 0 0] 26
        have hbah4 := (Below.refl Wb.heap.size Wb).alloc (Nat.le_refl _) (Obj.cells #[.slice none 0 0, .slice none 0 0] 26 (0, 0))
        have r1 := r1.on hbah4
        have r2 := r2.on hbah4
        have r3 := r3.on hbah4
        (try simp only [jA, jB, jC])
        go_simp
        refine hK.out _ _ ?_ (fun hHeld => ?_)
        focus ((try dsimp only); exact Hold.rd3 h4.tail; done)
        clear hK K
        (try simp only [Act.put, jA, jB, jC, jD, jE, jF])
        clear hbah4
        generalize (World.alloc _ _) = Wc at h4 r1 r2 r3 hHeld ⊢
        generalize Wb.heap.size = g7 at h4 ⊢
        obtain ⟨y0, y1⟩ := h4.pt (.head _)
        obtain ⟨z0, z1⟩ := h4.fz (.head _)
        have hog := Og.mkSet h4 r1 r2 r3
        refine wpAnyH_ready (rs := [8]) (by decide +kernel) (by simp) ?_
        refine AllReadyH.cons rfl (fun K hK => ?_) AllReadyH.nil
        (try simp only [jA, jB, jC])
        go_simp
        refine hK.out _ _ ?_ (fun hHeld => ?_)
        focus ((try dsimp only); exact Hold.rd3 hog.hold.tail; done)
        clear hK K
        (try simp only [Act.put, jA, jB, jC, jD, jE, jF])
        refine tZ 9 ?_
        refine wpAnyH_done (by decide +kernel) ?_ _
        go_wp2_with fail
        go_meet
        exact ⟨_, A2, c2, l2, Ap2, cp2, rfl, rfl, hm2, hog⟩
       ·have h3 := h2.new #[.slice none 0 0, .slice none 0 0] 26
        have hbah3 := (Below.refl Wa.heap.size Wa).alloc (Nat.le_refl _) (Obj.cells #[.slice none 0 0, .slice none 0 0] 26 (0, 0))
        have hpa := hpa.on hbah3
        (try simp only [jA, jB, jC])
        go_simp
        refine hK.out _ _ ?_ (fun hHeld => ?_)
        focus ((try dsimp only); exact Hold.rd3 h3.tail; done)
        clear hK K
        (try simp only [Act.put, jA, jB, jC, jD, jE, jF])
        clear hbah3
        generalize (World.alloc _ _) = Wb at h3 hpa hHeld ⊢
        generalize Wa.heap.size = g7 at h3 ⊢
        refine wpAnyH_ready (rs := [3]) (by decide +kernel) (by simp) ?_
        refine AllReadyH.cons rfl (fun K hK => ?_) AllReadyH.nil
        (try simp only [jA, jB, jC])
        go_simp
        go_at_call 9
        refine (HMK2.out A1 c1 l' Ap1 cp1 _ hm hpa).mono ?_
        rintro e' Wc ⟨hBb, A2, c2, l2, Ap2, cp2, rfl, hm2, r1, r2, r3⟩
        have h4 := h3.on hBb
        have r1 := r1.base h3.1
        have r2 := RowI.base r2 h3.1
        have r3 := OwnRs.base r3 h3.1
        refine hK.out _ _ ?_ (fun hHeld => ?_)
        focus ((try dsimp only); exact Hold.rd3 h4.tail; done)
        clear hK K
        (try simp only [Act.put, jA, jB, jC, jD, jE, jF])
        refine tZ 4 ?_; refine tZ 5 ?_; refine tZ 6 ?_
        obtain ⟨y0, y1⟩ := h4.pt (.head _)
        obtain ⟨z0, z1⟩ := h4.fz (.head _)
        have hog := Og.mkSet h4 r1 r2 r3
        refine wpAnyH_ready (rs := [8]) (by decide +kernel) (by simp) ?_
        refine AllReadyH.cons rfl (fun K hK => ?_) AllReadyH.nil
        (try simp only [jA, jB, jC])
        go_simp
        refine hK.out _ _ ?_ (fun hHeld => ?_)
        focus ((try dsimp only); exact Hold.rd3 hog.hold.tail; done)
        clear hK K
        (try simp only [Act.put, jA, jB, jC, jD, jE, jF])
        refine tZ 9 ?_
        refine wpAnyH_done (by decide +kernel) ?_ _
        go_wp2_with fail
        go_meet
        exact ⟨_, A2, c2, l2, Ap2, cp2, rfl, rfl, hm2, hog⟩
      ·have h2 := h1.new #[.slice none 0 0, .slice none 0 0] 26
       have hbah2 := (Below.refl Wd.heap.size Wd).alloc (Nat.le_refl _) (Obj.cells #[.slice none 0 0, .slice none 0 0] 26 (0, 0))
       (try simp only [jA, jB, jC])
       go_simp
       refine hK.out _ _ ?_ (fun hHeld => ?_)
       focus ((try dsimp only); exact Hold.rd3 h2.tail; done)
       clear hK K
       (try simp only [Act.put, jA, jB, jC, jD, jE, jF])
       clear hbah2
       generalize (World.alloc _ _) = We at h2 hHeld ⊢
       generalize Wd.heap.size = g7 at h2 ⊢
       refine wpAnyH_ready (rs := [1]) (by decide +kernel) (by simp) ?_
       refine AllReadyH.cons rfl (fun K hK => ?_) AllReadyH.nil
       (try simp only [jA, jB, jC])
       go_simp
       go_at_call 7
       refine (HOW.out _ h2.1).mono ?_
       rintro e' Wf ⟨hBa, A1, c1, l', Ap1, cp1, rfl, hm, hpa, -⟩
       have h3 := h2.on hBa
       refine hK.out _ _ ?_ (fun hHeld => ?_)
       focus ((try dsimp only); exact Hold.rd3 h3.tail; done)
       clear hK K
       (try simp only [Act.put, jA, jB, jC, jD, jE, jF])
       refine wpAnyH_ready (rs := [3]) (by decide +kernel) (by simp) ?_
       refine AllReadyH.cons rfl (fun K hK => ?_) AllReadyH.nil
       (try simp only [jA, jB, jC])
       go_simp
       go_at_call 9
       refine (HMK2.out A1 c1 l' Ap1 cp1 _ hm hpa).mono ?_
       rintro e' Wg ⟨hBb, A2, c2, l2, Ap2, cp2, rfl, hm2, r1, r2, r3⟩
       have h4 := h3.on hBb
       have r1 := r1.base h3.1
       have r2 := RowI.base r2 h3.1
       have r3 := OwnRs.base r3 h3.1
       refine hK.out _ _ ?_ (fun hHeld => ?_)
       focus ((try dsimp only); exact Hold.rd3 h4.tail; done)
       clear hK K
       (try simp only [Act.put, jA, jB, jC, jD, jE, jF])
       refine tZ 4 ?_; refine tZ 5 ?_; refine tZ 6 ?_
       obtain ⟨y0, y1⟩ := h4.pt (.head _)
       obtain ⟨z0, z1⟩ := h4.fz (.head _)
       have hog := Og.mkSet h4 r1 r2 r3
       refine wpAnyH_ready (rs := [8]) (by decide +kernel) (by simp) ?_
       refine AllReadyH.cons rfl (fun K hK => ?_) AllReadyH.nil
       (try simp only [jA, jB, jC])
       go_simp
       refine hK.out _ _ ?_ (fun hHeld => ?_)
       focus ((try dsimp only); exact Hold.rd3 hog.hold.tail; done)
       clear hK K
       (try simp only [Act.put, jA, jB, jC, jD, jE, jF])
       refine tZ 9 ?_
       refine wpAnyH_done (by decide +kernel) ?_ _
       go_wp2_with fail
       go_meet
       exact ⟨_, A2, c2, l2, Ap2, cp2, rfl, rfl, hm2, hog⟩
    case rest =>
     clear HOW HMK2
     obtain ⟨g7, A2, c2, l2, Ap2, cp2, rfl, rfl, hm2, hog⟩ := hcut
     generalize hWc : wc = W9 at *
     clear hWc
     by_cases hz2 : er2 = 0
     ·have hpl2 := hog.plan rfl (by have := HSM2.out.1; omega) (HRG2.out l2 hm2)
      have HCX := Lib.hid (HCB.out hz2 A2 c2 l2 Ap2 cp2 _ hm2 hpl2)
      subst hz2
      have HOG := Lib.hid hog
      obtain ⟨c0, c1⟩ := hog.hold.pt (.head _)
      obtain ⟨d0, d1⟩ := hog.hold.pt (.tail _ (.head _))
      clear hog hm2 hpl2 HCB
      go_upto_region 12 with (go_at_call 10; go_must (refine HCX.out.mono ?_; rintro e' W5 ⟨hB5, A3, c3, l3, Ap3, cp3, rfl, hm3, r1, r2, r3⟩; have hog7 := HOG.out.on hB5; have hoh := Og.mkNew hog7.hold (r1.base HOG.out.hold.1) (RowI.base r2 HOG.out.hold.1) (OwnRs.base r3 HOG.out.hold.1); have HM3 := Lib.hid hm3; clear hB5 hog7 hm3 r1 r2 r3))
      clear c0 c1 d0 d1
      generalize (World.alloc _ _) = W6 at hoh ⊢
      generalize (World.heap _).size = gX at hoh ⊢
      have hlen3 : l3.length = l.length := par_len HM3.out
      have hpl3 := hoh.plan rfl (by have := HO300.out; omega) (par_rings HM3.out HLQ.out)
      have hplP := HPL.out _ hoh.hold.1
      have hx := ref_samePlan o o A3 c3 l3 Ap3 cp3 Ao co l Ap cp (by have := HO300.out; unfold maxLen; omega) (by have := HL80.out; omega) _ hpl3.prs hplP.prs hpl3.out hplP.out
      rw [show decide (o = o ∧ l3.map PV.par = l.map PV.par) = true from decide_eq_true ⟨rfl, HM3.out⟩] at hx
      have HSA := Lib.hid hx
      obtain ⟨c0, c1⟩ := hoh.hold.pt (.head _)
      obtain ⟨d0, d1⟩ := hoh.hold.pt (.tail _ (.tail _ (.tail _ (.tail _ (.head _)))))
      have HB := Lib.hid hoh.hold.1
      clear hlen3 hpl3 hplP hx hoh
      go_wp2_with fail
      go_at_call 8
      refine HSA.out.mono ?_
      rintro e' W8 ⟨rfl, hB⟩
      have HB8 := Lib.hid (HB.out.trans (hB.mono HB.out.size))
      clear hB c0 c1 d0 d1
      go_wp2
      go_ret
      exact ⟨rfl, HG3.out ▸ HB8.out⟩
     ·have e0 : (er2 == 0) = false := by simpa using hz2
      have f0 : ¬ er2 = 0 := hz2
      have HE := Lib.hid hog.hold.1
      clear hz2 hog hm2 HCB HSM2 HRG2
      go_wp2
      go_ret
      exact ⟨rfl, HG3.out ▸ HE.out⟩
   ·have e0 : (er == 0) = false := by simpa using hz
    have f0 : ¬ er = 0 := hz
    have HQS := Lib.hid hog.hold.tail
    clear hz hog hm2 HMB HSM HRG
    by_cases hz3 : er2 = 0
    ·have HLQ := Lib.hid (HLX.out (.inr hz3))
     clear hz3 HLX
     go_upto_region 8 with (fail)
     go_cut [11, 12] (fun s5 s6 wx => ∃ g7 A2 c2 l2 Ap2 cp2, s5 = .pointer (some ⟨g7, 0, none⟩) ∧ s6 = .int .i64 er2 ∧ l2.map PV.par = qs2 ∧ Og w A2 on2 c2 Ap2 l2.length l2 cp2 g7 [(g5, #[.int .i64 q.1, .int .i64 q.2], 28), (g4, #[.int .i64 p.1, .int .i64 p.2], 28), (g3, #[.slice Ao o.length co, .slice Ap l.length cp], 26)] wx)
     case first =>
      as_aux_lemma =>
       have h1 := HQS.out.drew
       clear HPL HSM2 HRG2 HCB
       refine wp_region_held_drew (S := fun W => W.cell? ⟨g3, 0, none⟩ = some (.slice Ao o.length co) ∧ W.cell? ⟨g3, 1, none⟩ = some (.slice Ap l.length cp) ∧ W.cell? ⟨g4, 0, none⟩ = some (.int .i64 p.1) ∧ W.cell? ⟨g4, 1, none⟩ = some (.int .i64 p.2) ∧ W.cell? ⟨g5, 0, none⟩ = some (.int .i64 q.1) ∧ W.cell? ⟨g5, 1, none⟩ = some (.int .i64 q.2)) (by kernel_rfl) ?_ (fun hHeld => ?_)
       ·(try dsimp only)
        exact Hold.rd3 h1
       refine tZ 0 ?_; refine tZ 2 ?_
       generalize (World.drew _) = Wd at h1 hHeld ⊢
       refine wpAnyH_ready (rs := [1, 7]) (by decide +kernel) (by simp) ?_
       refine AllReadyH.cons rfl (fun K hK => ?_) (AllReadyH.cons rfl (fun K hK => ?_) AllReadyH.nil)
       ·(try simp only [jA, jB, jC])
        go_simp
        go_at_call 7
        refine (HOW.out _ h1.1).mono ?_
        rintro e' Wa ⟨hBa, A1, c1, l', Ap1, cp1, rfl, hm, hpa, -⟩
        have h2 := h1.on hBa
        refine hK.out _ _ ?_ (fun hHeld => ?_)
        focus ((try dsimp only); exact Hold.rd3 h2; done)
        clear hK K
        (try simp only [Act.put, jA, jB, jC, jD, jE, jF])
        refine wpAnyH_ready (rs := [3, 7]) (by decide +kernel) (by simp) ?_
        refine AllReadyH.cons rfl (fun K hK => ?_) (AllReadyH.cons rfl (fun K hK => ?_) AllReadyH.nil)
        ·(try simp only [jA, jB, jC])
         go_simp
         go_at_call 9
         refine (HMK2.out A1 c1 l' Ap1 cp1 _ hm hpa).mono ?_
         rintro e' Wb ⟨hBb, A2, c2, l2, Ap2, cp2, rfl, hm2, r1, r2, r3⟩
         have h3 := h2.on hBb
         have r1 := r1.base h2.1
         have r2 := RowI.base r2 h2.1
         have r3 := OwnRs.base r3 h2.1
         refine hK.out _ _ ?_ (fun hHeld => ?_)
         focus ((try dsimp only); exact Hold.rd3 h3; done)
         clear hK K
         (try simp only [Act.put, jA, jB, jC, jD, jE, jF])
         refine tZ 4 ?_; refine tZ 5 ?_; refine tZ 6 ?_
         refine wpAnyH_ready (rs := [7]) (by decide +kernel) (by simp) ?_
         refine AllReadyH.cons rfl (fun K hK => ?_) AllReadyH.nil
         have h4 := h3.new #[.slice none 0 0, .slice none 0 0] 26
         have hbah4 := (Below.refl Wb.heap.size Wb).alloc (Nat.le_refl _) (Obj.cells #[.slice none 0 0, .slice none 0 0] 26 (0, 0))
         have r1 := r1.on hbah4
         have r2 := r2.on hbah4
         have r3 := r3.on hbah4
         (try simp only [jA, jB, jC])
         go_simp
         refine hK.out _ _ ?_ (fun hHeld => ?_)
         focus ((try dsimp only); exact Hold.rd3 h4.tail; done)
         clear hK K
         (try simp only [Act.put, jA, jB, jC, jD, jE, jF])
         clear hbah4
         generalize (World.alloc _ _) = Wc at h4 r1 r2 r3 hHeld ⊢
         generalize Wb.heap.size = g7 at h4 ⊢
         obtain ⟨y0, y1⟩ := h4.pt (.head _)
         obtain ⟨z0, z1⟩ := h4.fz (.head _)
         have hog := Og.mkSet h4 r1 r2 r3
         refine wpAnyH_ready (rs := [8]) (by decide +kernel) (by simp) ?_
         refine AllReadyH.cons rfl (fun K hK => ?_) AllReadyH.nil
         (try simp only [jA, jB, jC])
         go_simp
         refine hK.out _ _ ?_ (fun hHeld => ?_)
         focus ((try dsimp only); exact Hold.rd3 hog.hold.tail; done)
         clear hK K
         (try simp only [Act.put, jA, jB, jC, jD, jE, jF])
         refine tZ 9 ?_
         refine wpAnyH_done (by decide +kernel) ?_ _
         go_wp2_with fail
         go_meet
         exact ⟨_, A2, c2, l2, Ap2, cp2, rfl, rfl, hm2, hog⟩
        ·have h3 := h2.new #[.slice none 0 0, .slice none 0 0] 26
         have hbah3 := (Below.refl Wa.heap.size Wa).alloc (Nat.le_refl _) (Obj.cells #[.slice none 0 0, .slice none 0 0] 26 (0, 0))
         have hpa := hpa.on hbah3
         (try simp only [jA, jB, jC])
         go_simp
         refine hK.out _ _ ?_ (fun hHeld => ?_)
         focus ((try dsimp only); exact Hold.rd3 h3.tail; done)
         clear hK K
         (try simp only [Act.put, jA, jB, jC, jD, jE, jF])
         clear hbah3
         generalize (World.alloc _ _) = Wb at h3 hpa hHeld ⊢
         generalize Wa.heap.size = g7 at h3 ⊢
         refine wpAnyH_ready (rs := [3]) (by decide +kernel) (by simp) ?_
         refine AllReadyH.cons rfl (fun K hK => ?_) AllReadyH.nil
         (try simp only [jA, jB, jC])
         go_simp
         go_at_call 9
         refine (HMK2.out A1 c1 l' Ap1 cp1 _ hm hpa).mono ?_
         rintro e' Wc ⟨hBb, A2, c2, l2, Ap2, cp2, rfl, hm2, r1, r2, r3⟩
         have h4 := h3.on hBb
         have r1 := r1.base h3.1
         have r2 := RowI.base r2 h3.1
         have r3 := OwnRs.base r3 h3.1
         refine hK.out _ _ ?_ (fun hHeld => ?_)
         focus ((try dsimp only); exact Hold.rd3 h4.tail; done)
         clear hK K
         (try simp only [Act.put, jA, jB, jC, jD, jE, jF])
         refine tZ 4 ?_; refine tZ 5 ?_; refine tZ 6 ?_
         obtain ⟨y0, y1⟩ := h4.pt (.head _)
         obtain ⟨z0, z1⟩ := h4.fz (.head _)
         have hog := Og.mkSet h4 r1 r2 r3
         refine wpAnyH_ready (rs := [8]) (by decide +kernel) (by simp) ?_
         refine AllReadyH.cons rfl (fun K hK => ?_) AllReadyH.nil
         (try simp only [jA, jB, jC])
         go_simp
         refine hK.out _ _ ?_ (fun hHeld => ?_)
         focus ((try dsimp only); exact Hold.rd3 hog.hold.tail; done)
         clear hK K
         (try simp only [Act.put, jA, jB, jC, jD, jE, jF])
         refine tZ 9 ?_
         refine wpAnyH_done (by decide +kernel) ?_ _
         go_wp2_with fail
         go_meet
         exact ⟨_, A2, c2, l2, Ap2, cp2, rfl, rfl, hm2, hog⟩
       ·have h2 := h1.new #[.slice none 0 0, .slice none 0 0] 26
        have hbah2 := (Below.refl Wd.heap.size Wd).alloc (Nat.le_refl _) (Obj.cells #[.slice none 0 0, .slice none 0 0] 26 (0, 0))
        (try simp only [jA, jB, jC])
        go_simp
        refine hK.out _ _ ?_ (fun hHeld => ?_)
        focus ((try dsimp only); exact Hold.rd3 h2.tail; done)
        clear hK K
        (try simp only [Act.put, jA, jB, jC, jD, jE, jF])
        clear hbah2
        generalize (World.alloc _ _) = We at h2 hHeld ⊢
        generalize Wd.heap.size = g7 at h2 ⊢
        refine wpAnyH_ready (rs := [1]) (by decide +kernel) (by simp) ?_
        refine AllReadyH.cons rfl (fun K hK => ?_) AllReadyH.nil
        (try simp only [jA, jB, jC])
        go_simp
        go_at_call 7
        refine (HOW.out _ h2.1).mono ?_
        rintro e' Wf ⟨hBa, A1, c1, l', Ap1, cp1, rfl, hm, hpa, -⟩
        have h3 := h2.on hBa
        refine hK.out _ _ ?_ (fun hHeld => ?_)
        focus ((try dsimp only); exact Hold.rd3 h3.tail; done)
        clear hK K
        (try simp only [Act.put, jA, jB, jC, jD, jE, jF])
        refine wpAnyH_ready (rs := [3]) (by decide +kernel) (by simp) ?_
        refine AllReadyH.cons rfl (fun K hK => ?_) AllReadyH.nil
        (try simp only [jA, jB, jC])
        go_simp
        go_at_call 9
        refine (HMK2.out A1 c1 l' Ap1 cp1 _ hm hpa).mono ?_
        rintro e' Wg ⟨hBb, A2, c2, l2, Ap2, cp2, rfl, hm2, r1, r2, r3⟩
        have h4 := h3.on hBb
        have r1 := r1.base h3.1
        have r2 := RowI.base r2 h3.1
        have r3 := OwnRs.base r3 h3.1
        refine hK.out _ _ ?_ (fun hHeld => ?_)
        focus ((try dsimp only); exact Hold.rd3 h4.tail; done)
        clear hK K
        (try simp only [Act.put, jA, jB, jC, jD, jE, jF])
        refine tZ 4 ?_; refine tZ 5 ?_; refine tZ 6 ?_
        obtain ⟨y0, y1⟩ := h4.pt (.head _)
        obtain ⟨z0, z1⟩ := h4.fz (.head _)
        have hog := Og.mkSet h4 r1 r2 r3
        refine wpAnyH_ready (rs := [8]) (by decide +kernel) (by simp) ?_
        refine AllReadyH.cons rfl (fun K hK => ?_) AllReadyH.nil
        (try simp only [jA, jB, jC])
        go_simp
        refine hK.out _ _ ?_ (fun hHeld => ?_)
        focus ((try dsimp only); exact Hold.rd3 hog.hold.tail; done)
        clear hK K
        (try simp only [Act.put, jA, jB, jC, jD, jE, jF])
        refine tZ 9 ?_
        refine wpAnyH_done (by decide +kernel) ?_ _
        go_wp2_with fail
        go_meet
        exact ⟨_, A2, c2, l2, Ap2, cp2, rfl, rfl, hm2, hog⟩
     case rest =>
      clear HOW HMK2
      obtain ⟨g7, A2, c2, l2, Ap2, cp2, rfl, rfl, hm2, hog⟩ := hcut
      generalize hWc : wc = W9 at *
      clear hWc
      by_cases hz2 : er2 = 0
      ·have hpl2 := hog.plan rfl (by have := HSM2.out.1; omega) (HRG2.out l2 hm2)
       have HCX := Lib.hid (HCB.out hz2 A2 c2 l2 Ap2 cp2 _ hm2 hpl2)
       subst hz2
       have HOG := Lib.hid hog
       obtain ⟨c0, c1⟩ := hog.hold.pt (.head _)
       obtain ⟨d0, d1⟩ := hog.hold.pt (.tail _ (.head _))
       clear hog hm2 hpl2 HCB
       go_upto_region 12 with (go_at_call 10; go_must (refine HCX.out.mono ?_; rintro e' W5 ⟨hB5, A3, c3, l3, Ap3, cp3, rfl, hm3, r1, r2, r3⟩; have hog7 := HOG.out.on hB5; have hoh := Og.mkNew hog7.hold (r1.base HOG.out.hold.1) (RowI.base r2 HOG.out.hold.1) (OwnRs.base r3 HOG.out.hold.1); have HM3 := Lib.hid hm3; clear hB5 hog7 hm3 r1 r2 r3))
       clear c0 c1 d0 d1
       generalize (World.alloc _ _) = W6 at hoh ⊢
       generalize (World.heap _).size = gX at hoh ⊢
       have hlen3 : l3.length = l.length := par_len HM3.out
       have hpl3 := hoh.plan rfl (by have := HO300.out; omega) (par_rings HM3.out HLQ.out)
       have hplP := HPL.out _ hoh.hold.1
       have hx := ref_samePlan o o A3 c3 l3 Ap3 cp3 Ao co l Ap cp (by have := HO300.out; unfold maxLen; omega) (by have := HL80.out; omega) _ hpl3.prs hplP.prs hpl3.out hplP.out
       rw [show decide (o = o ∧ l3.map PV.par = l.map PV.par) = true from decide_eq_true ⟨rfl, HM3.out⟩] at hx
       have HSA := Lib.hid hx
       obtain ⟨c0, c1⟩ := hoh.hold.pt (.head _)
       obtain ⟨d0, d1⟩ := hoh.hold.pt (.tail _ (.tail _ (.tail _ (.tail _ (.head _)))))
       have HB := Lib.hid hoh.hold.1
       clear hlen3 hpl3 hplP hx hoh
       go_wp2_with fail
       go_at_call 8
       refine HSA.out.mono ?_
       rintro e' W8 ⟨rfl, hB⟩
       have HB8 := Lib.hid (HB.out.trans (hB.mono HB.out.size))
       clear hB c0 c1 d0 d1
       go_wp2
       go_ret
       exact ⟨rfl, HG3.out ▸ HB8.out⟩
      ·have e0 : (er2 == 0) = false := by simpa using hz2
       have f0 : ¬ er2 = 0 := hz2
       have HE := Lib.hid hog.hold.1
       clear hz2 hog hm2 HCB HSM2 HRG2
       go_wp2
       go_ret
       exact ⟨rfl, HG3.out ▸ HE.out⟩
    ·have HLQ : Hid (er2 = 0 → False) := hz3
     clear hz3 HLX
     go_upto_region 8 with (fail)
     go_cut [11, 12] (fun s5 s6 wx => ∃ g7 A2 c2 l2 Ap2 cp2, s5 = .pointer (some ⟨g7, 0, none⟩) ∧ s6 = .int .i64 er2 ∧ l2.map PV.par = qs2 ∧ Og w A2 on2 c2 Ap2 l2.length l2 cp2 g7 [(g5, #[.int .i64 q.1, .int .i64 q.2], 28), (g4, #[.int .i64 p.1, .int .i64 p.2], 28), (g3, #[.slice Ao o.length co, .slice Ap l.length cp], 26)] wx)
     case first =>
      as_aux_lemma =>
       have h1 := HQS.out.drew
       clear HPL HSM2 HRG2 HCB
       refine wp_region_held_drew (S := fun W => W.cell? ⟨g3, 0, none⟩ = some (.slice Ao o.length co) ∧ W.cell? ⟨g3, 1, none⟩ = some (.slice Ap l.length cp) ∧ W.cell? ⟨g4, 0, none⟩ = some (.int .i64 p.1) ∧ W.cell? ⟨g4, 1, none⟩ = some (.int .i64 p.2) ∧ W.cell? ⟨g5, 0, none⟩ = some (.int .i64 q.1) ∧ W.cell? ⟨g5, 1, none⟩ = some (.int .i64 q.2)) (by kernel_rfl) ?_ (fun hHeld => ?_)
       ·(try dsimp only)
        exact Hold.rd3 h1
       refine tZ 0 ?_; refine tZ 2 ?_
       generalize (World.drew _) = Wd at h1 hHeld ⊢
       refine wpAnyH_ready (rs := [1, 7]) (by decide +kernel) (by simp) ?_
       refine AllReadyH.cons rfl (fun K hK => ?_) (AllReadyH.cons rfl (fun K hK => ?_) AllReadyH.nil)
       ·(try simp only [jA, jB, jC])
        go_simp
        go_at_call 7
        refine (HOW.out _ h1.1).mono ?_
        rintro e' Wa ⟨hBa, A1, c1, l', Ap1, cp1, rfl, hm, hpa, -⟩
        have h2 := h1.on hBa
        refine hK.out _ _ ?_ (fun hHeld => ?_)
        focus ((try dsimp only); exact Hold.rd3 h2; done)
        clear hK K
        (try simp only [Act.put, jA, jB, jC, jD, jE, jF])
        refine wpAnyH_ready (rs := [3, 7]) (by decide +kernel) (by simp) ?_
        refine AllReadyH.cons rfl (fun K hK => ?_) (AllReadyH.cons rfl (fun K hK => ?_) AllReadyH.nil)
        ·(try simp only [jA, jB, jC])
         go_simp
         go_at_call 9
         refine (HMK2.out A1 c1 l' Ap1 cp1 _ hm hpa).mono ?_
         rintro e' Wb ⟨hBb, A2, c2, l2, Ap2, cp2, rfl, hm2, r1, r2, r3⟩
         have h3 := h2.on hBb
         have r1 := r1.base h2.1
         have r2 := RowI.base r2 h2.1
         have r3 := OwnRs.base r3 h2.1
         refine hK.out _ _ ?_ (fun hHeld => ?_)
         focus ((try dsimp only); exact Hold.rd3 h3; done)
         clear hK K
         (try simp only [Act.put, jA, jB, jC, jD, jE, jF])
         refine tZ 4 ?_; refine tZ 5 ?_; refine tZ 6 ?_
         refine wpAnyH_ready (rs := [7]) (by decide +kernel) (by simp) ?_
         refine AllReadyH.cons rfl (fun K hK => ?_) AllReadyH.nil
         have h4 := h3.new #[.slice none 0 0, .slice none 0 0] 26
         have hbah4 := (Below.refl Wb.heap.size Wb).alloc (Nat.le_refl _) (Obj.cells #[.slice none 0 0, .slice none 0 0] 26 (0, 0))
         have r1 := r1.on hbah4
         have r2 := r2.on hbah4
         have r3 := r3.on hbah4
         (try simp only [jA, jB, jC])
         go_simp
         refine hK.out _ _ ?_ (fun hHeld => ?_)
         focus ((try dsimp only); exact Hold.rd3 h4.tail; done)
         clear hK K
         (try simp only [Act.put, jA, jB, jC, jD, jE, jF])
         clear hbah4
         generalize (World.alloc _ _) = Wc at h4 r1 r2 r3 hHeld ⊢
         generalize Wb.heap.size = g7 at h4 ⊢
         obtain ⟨y0, y1⟩ := h4.pt (.head _)
         obtain ⟨z0, z1⟩ := h4.fz (.head _)
         have hog := Og.mkSet h4 r1 r2 r3
         refine wpAnyH_ready (rs := [8]) (by decide +kernel) (by simp) ?_
         refine AllReadyH.cons rfl (fun K hK => ?_) AllReadyH.nil
         (try simp only [jA, jB, jC])
         go_simp
         refine hK.out _ _ ?_ (fun hHeld => ?_)
         focus ((try dsimp only); exact Hold.rd3 hog.hold.tail; done)
         clear hK K
         (try simp only [Act.put, jA, jB, jC, jD, jE, jF])
         refine tZ 9 ?_
         refine wpAnyH_done (by decide +kernel) ?_ _
         go_wp2_with fail
         go_meet
         exact ⟨_, A2, c2, l2, Ap2, cp2, rfl, rfl, hm2, hog⟩
        ·have h3 := h2.new #[.slice none 0 0, .slice none 0 0] 26
         have hbah3 := (Below.refl Wa.heap.size Wa).alloc (Nat.le_refl _) (Obj.cells #[.slice none 0 0, .slice none 0 0] 26 (0, 0))
         have hpa := hpa.on hbah3
         (try simp only [jA, jB, jC])
         go_simp
         refine hK.out _ _ ?_ (fun hHeld => ?_)
         focus ((try dsimp only); exact Hold.rd3 h3.tail; done)
         clear hK K
         (try simp only [Act.put, jA, jB, jC, jD, jE, jF])
         clear hbah3
         generalize (World.alloc _ _) = Wb at h3 hpa hHeld ⊢
         generalize Wa.heap.size = g7 at h3 ⊢
         refine wpAnyH_ready (rs := [3]) (by decide +kernel) (by simp) ?_
         refine AllReadyH.cons rfl (fun K hK => ?_) AllReadyH.nil
         (try simp only [jA, jB, jC])
         go_simp
         go_at_call 9
         refine (HMK2.out A1 c1 l' Ap1 cp1 _ hm hpa).mono ?_
         rintro e' Wc ⟨hBb, A2, c2, l2, Ap2, cp2, rfl, hm2, r1, r2, r3⟩
         have h4 := h3.on hBb
         have r1 := r1.base h3.1
         have r2 := RowI.base r2 h3.1
         have r3 := OwnRs.base r3 h3.1
         refine hK.out _ _ ?_ (fun hHeld => ?_)
         focus ((try dsimp only); exact Hold.rd3 h4.tail; done)
         clear hK K
         (try simp only [Act.put, jA, jB, jC, jD, jE, jF])
         refine tZ 4 ?_; refine tZ 5 ?_; refine tZ 6 ?_
         obtain ⟨y0, y1⟩ := h4.pt (.head _)
         obtain ⟨z0, z1⟩ := h4.fz (.head _)
         have hog := Og.mkSet h4 r1 r2 r3
         refine wpAnyH_ready (rs := [8]) (by decide +kernel) (by simp) ?_
         refine AllReadyH.cons rfl (fun K hK => ?_) AllReadyH.nil
         (try simp only [jA, jB, jC])
         go_simp
         refine hK.out _ _ ?_ (fun hHeld => ?_)
         focus ((try dsimp only); exact Hold.rd3 hog.hold.tail; done)
         clear hK K
         (try simp only [Act.put, jA, jB, jC, jD, jE, jF])
         refine tZ 9 ?_
         refine wpAnyH_done (by decide +kernel) ?_ _
         go_wp2_with fail
         go_meet
         exact ⟨_, A2, c2, l2, Ap2, cp2, rfl, rfl, hm2, hog⟩
       ·have h2 := h1.new #[.slice none 0 0, .slice none 0 0] 26
        have hbah2 := (Below.refl Wd.heap.size Wd).alloc (Nat.le_refl _) (Obj.cells #[.slice none 0 0, .slice none 0 0] 26 (0, 0))
        (try simp only [jA, jB, jC])
        go_simp
        refine hK.out _ _ ?_ (fun hHeld => ?_)
        focus ((try dsimp only); exact Hold.rd3 h2.tail; done)
        clear hK K
        (try simp only [Act.put, jA, jB, jC, jD, jE, jF])
        clear hbah2
        generalize (World.alloc _ _) = We at h2 hHeld ⊢
        generalize Wd.heap.size = g7 at h2 ⊢
        refine wpAnyH_ready (rs := [1]) (by decide +kernel) (by simp) ?_
        refine AllReadyH.cons rfl (fun K hK => ?_) AllReadyH.nil
        (try simp only [jA, jB, jC])
        go_simp
        go_at_call 7
        refine (HOW.out _ h2.1).mono ?_
        rintro e' Wf ⟨hBa, A1, c1, l', Ap1, cp1, rfl, hm, hpa, -⟩
        have h3 := h2.on hBa
        refine hK.out _ _ ?_ (fun hHeld => ?_)
        focus ((try dsimp only); exact Hold.rd3 h3.tail; done)
        clear hK K
        (try simp only [Act.put, jA, jB, jC, jD, jE, jF])
        refine wpAnyH_ready (rs := [3]) (by decide +kernel) (by simp) ?_
        refine AllReadyH.cons rfl (fun K hK => ?_) AllReadyH.nil
        (try simp only [jA, jB, jC])
        go_simp
        go_at_call 9
        refine (HMK2.out A1 c1 l' Ap1 cp1 _ hm hpa).mono ?_
        rintro e' Wg ⟨hBb, A2, c2, l2, Ap2, cp2, rfl, hm2, r1, r2, r3⟩
        have h4 := h3.on hBb
        have r1 := r1.base h3.1
        have r2 := RowI.base r2 h3.1
        have r3 := OwnRs.base r3 h3.1
        refine hK.out _ _ ?_ (fun hHeld => ?_)
        focus ((try dsimp only); exact Hold.rd3 h4.tail; done)
        clear hK K
        (try simp only [Act.put, jA, jB, jC, jD, jE, jF])
        refine tZ 4 ?_; refine tZ 5 ?_; refine tZ 6 ?_
        obtain ⟨y0, y1⟩ := h4.pt (.head _)
        obtain ⟨z0, z1⟩ := h4.fz (.head _)
        have hog := Og.mkSet h4 r1 r2 r3
        refine wpAnyH_ready (rs := [8]) (by decide +kernel) (by simp) ?_
        refine AllReadyH.cons rfl (fun K hK => ?_) AllReadyH.nil
        (try simp only [jA, jB, jC])
        go_simp
        refine hK.out _ _ ?_ (fun hHeld => ?_)
        focus ((try dsimp only); exact Hold.rd3 hog.hold.tail; done)
        clear hK K
        (try simp only [Act.put, jA, jB, jC, jD, jE, jF])
        refine tZ 9 ?_
        refine wpAnyH_done (by decide +kernel) ?_ _
        go_wp2_with fail
        go_meet
        exact ⟨_, A2, c2, l2, Ap2, cp2, rfl, rfl, hm2, hog⟩
     case rest =>
      clear HOW HMK2
      obtain ⟨g7, A2, c2, l2, Ap2, cp2, rfl, rfl, hm2, hog⟩ := hcut
      generalize hWc : wc = W9 at *
      clear hWc
      have e0 : (er2 == 0) = false := by simpa using HLQ.out
      have f0 : ¬ er2 = 0 := HLQ.out
      have HE := Lib.hid hog.hold.1
      clear hog hm2 HCB HSM2 HRG2 HLQ
      go_wp2
      go_ret
      exact ⟨rfl, HG3.out ▸ HE.out⟩
end Go.Proofs.Ytfjfmieadedjoaa
