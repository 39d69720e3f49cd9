/- The document's parcels of a cut, each begun at its least corner whether it is sound or not, make a plan where ours do, and then they are ours. -/
import Derived.Test.YtaedlfiafnbceaaGreatCutV
import Derived.Test.YtaedlfiafnbceaaGreatRefLeast
import Derived.Test.YtaedlfiafnbceaaGreatRefChk
import Derived.Test.YtaedlfiafnbceaaGreatCutM
namespace Go.Proofs.YtaedlfiafnbceaaGreat
open Go.RowKit

theorem chE_lstR {r : List (Int × Int)} (h : chE (lstR r) = 0) : chE r = 0 := by
 by_cases h0 : r.length = 0
 ·have e : r = [] := List.eq_nil_of_length_eq_zero h0
  subst e
  exact h
 ·have hx := begins (r := r) (s := lstR r) (leastI r r.length) (rotL_length _ _) (fun i => nx_rotL _ _ _ (by omega))
  rw [chE_zero] at h ⊢
  refine ⟨?_, hx.2.1.1 h.2⟩
  obtain ⟨a1, a2⟩ := arE_zero.1 h.1
  have hl : (lstR r).length = r.length := rotL_length _ _
  refine arE_zero.2 ⟨by omega, gdL_iff.2 fun p hp => ?_⟩
  obtain ⟨i, hi, e⟩ := List.getElem_of_mem hp
  obtain ⟨j, hj⟩ : ∃ j, nx (lstR r) j = nx r i := by
   refine ⟨i + (r.length - leastI r r.length), ?_⟩
   unfold lstR
   rw [nx_rotL _ _ _ (by omega)]
   have := leastI_le r r.length
   rw [show i + (r.length - leastI r r.length) + leastI r r.length = i + r.length by omega, nx_per]
  rw [← e, ← nx_lt hi, ← hj]
  exact gdL_iff.1 a2 _ (nx_memC (by omega) j)
section
variable {o : List (Int × Int)} {ps : List Par} {id : Int} {path : List (Int × Int)} {fresh : Int}
noncomputable def docL (ps : List Par) (id : Int) (path : List (Int × Int)) (fresh : Int) : List Par := srtQ (cutQ lstR ps id path fresh)
theorem parts_in {f : List (Int × Int) → List (Int × Int)} {x : Par} (hx : x ∈ ps) (hid : x.id = id) : (⟨fresh, f (closedL path (putE x.ring path)), x.own⟩ : Par) ∈ srtQ (cutQ f ps id path fresh) ∧ (⟨id, f (closedL path.reverse (putE x.ring path)), x.own⟩ : Par) ∈ srtQ (cutQ f ps id path fresh) := by
 have h : ∀ y ∈ cutPar f id path fresh x, y ∈ srtQ (cutQ f ps id path fresh) := fun y hy => (srtQ_perm _).symm.subset (List.mem_flatMap.2 ⟨x, hx, hy⟩)
 unfold cutPar at h
 rw [if_pos hid, hid] at h
 exact ⟨h _ List.mem_cons_self, h _ (List.mem_cons_of_mem _ List.mem_cons_self)⟩
theorem doc_eq (h : ∀ x ∈ ps, x.id = id → chE (closedL path (putE x.ring path)) = 0 ∧ chE (closedL path.reverse (putE x.ring path)) = 0) : docL ps id path fresh = sptL ps id path fresh := by
 unfold docL sptL
 congr 1
 have key : ∀ qs : List Par, (∀ x ∈ qs, x.id = id → chE (closedL path (putE x.ring path)) = 0 ∧ chE (closedL path.reverse (putE x.ring path)) = 0) → cutQ lstR qs id path fresh = cutQ nmL qs id path fresh := fun qs => by
  induction qs with
  |nil => intro _; rfl
  |cons x qs ih =>
   intro hq
   have e : ∀ f, cutQ f (x :: qs) id path fresh = cutPar f id path fresh x ++ cutQ f qs id path fresh := fun f => by unfold cutQ; rw [List.flatMap_cons]
   rw [e, e, ih (fun y hy => hq y (List.mem_cons_of_mem _ hy))]
   congr 1
   unfold cutPar
   by_cases hx : x.id = id
   ·obtain ⟨h1, h2⟩ := hq x List.mem_cons_self hx
    rw [if_pos hx, if_pos hx, nmL_eq h1, nmL_eq h2]
    rfl
   ·rw [if_neg hx, if_neg hx]
 exact key ps h
theorem doc_same (h1 : chkQ o ps = true) (h2 : id ∈ idsQ ps) : chkQ (putE o path) (docL ps id path fresh) = chkQ (putE o path) (sptL ps id path fresh) ∧ (chkQ (putE o path) (sptL ps id path fresh) = true → docL ps id path fresh = sptL ps id path fresh) := by
 have hP := (chkQ_iff _ _).1 h1
 obtain ⟨x, hx, hid⟩ := List.mem_map.1 h2
 have hone : ∀ y ∈ ps, y.id = id → y = x := fun y hy e => hP.one hy hx (e.trans hid.symm)
 by_cases hb : chE (closedL path (putE x.ring path)) = 0 ∧ chE (closedL path.reverse (putE x.ring path)) = 0
 ·have e := doc_eq (ps := ps) (id := id) (path := path) (fresh := fresh) fun y hy e => by rw [hone y hy e]; exact hb
  rw [e]
  exact ⟨rfl, fun _ => rfl⟩
 ·have hf : ∀ f : List (Int × Int) → List (Int × Int), (∀ r, NormP (f r) → chE r = 0) → chkQ (putE o path) (srtQ (cutQ f ps id path fresh)) = false := fun f hff => by
   cases hc : chkQ (putE o path) (srtQ (cutQ f ps id path fresh))
   ·rfl
   ·have hQ := (chkQ_iff _ _).1 hc
    obtain ⟨p1, p2⟩ := parts_in (f := f) (path := path) (fresh := fresh) hx hid
    exact absurd ⟨hff _ (hQ.each _ p1), hff _ (hQ.each _ p2)⟩ hb
  have e1 : chkQ (putE o path) (docL ps id path fresh) = false := hf lstR fun r h => chE_lstR (normP_iff.1 h).1
  have e2 : chkQ (putE o path) (sptL ps id path fresh) = false := hf nmL fun r h => nmL_some h
  rw [e1, e2]
  exact ⟨rfl, fun h => by cases h⟩
end
end Go.Proofs.YtaedlfiafnbceaaGreat

namespace Go.Proofs.YtaedlfiafnbceaaGreat
open Go.RowKit

theorem lsR_length (r : List (Int × Int)) : (lsR r).length = r.length := rotL_length _ _
def DoneAt (w w' : World) (o : List (Int × Int)) (qs : List Par) (e : Ending) : Prop :=
 Below w.heap.size w w' ∧ ((chkQ o qs = false ∧ e = .returned (.tuple #[.agg #[.slice none 0 0, .slice none 0 0], .int .i64 8])) ∨
  (chkQ o qs = true ∧ ∃ A1 c1 l' Ap1 cp1, e = .returned (.tuple #[.agg #[.slice A1 o.length c1, .slice Ap1 l'.length cp1], .int .i64 0]) ∧ l'.map PV.par = qs ∧ Row w (.slice A1 o.length c1) o w' ∧ RowI w 37 3 encV (.slice Ap1 l'.length cp1) l' w' ∧ OwnRs w l' w'))
set_option maxRecDepth 100000 in
set_option maxHeartbeats 2000000 in
theorem done_own (o : List (Int × Int)) (Ao : Option Addr) (co : Nat) (l : List PV) (Ap : Option Addr) (cp : Nat) (hl : l.length ≤ 1000000) (ho : o.length ≤ 1000) (hls : ∀ x ∈ l, x.par.ring.length ≤ 1000) (hown : ∀ x ∈ l, x.par.own.size ≤ maxLen) (w : World) (h : PlanAt w o Ao co l Ap cp) :
  Calls Tryz.prog 22 #[.agg #[.slice Ao o.length co, .slice Ap l.length cp]] w fun e w' => DoneAt w w' (lsR o) (l.map fun x => lsP x.par) e := by
 have HLE := Lib.hid (fun K W (hh : Hold w K W) => Least_own o Ao co l Ap cp hl (by omega) (fun x hx => Nat.le_trans (hls x hx) (by decide)) W (h.on hh.1))
 have HLO : Hid (o.length ≤ 1000) := ho
 have HLS := Lib.hid hls
 have HOS := Lib.hid hown
 have HLL : Hid (l.length ≤ 1000000) := hl
 have HQ := ((Hold.refl w).new #[.slice Ao o.length co, .slice Ap l.length cp] 26).new' #[.slice none 0 0, .slice none 0 0] 26 (n := w.heap.size + 1) (by simp)
 clear h ho hls hown
 go_enter Tryz.func22, Tryz.ntmps22
 go_upto_region 1 with (fail)
 generalize (World.alloc (World.alloc w _) _) = W1 at HQ ⊢
 generalize w.heap.size + 1 = g2 at HQ ⊢
 obtain ⟨g1, hg1⟩ : ∃ g, w.heap.size = g := ⟨_, rfl⟩
 have HG1 := Lib.hid hg1
 rw [hg1] at HQ ⊢
 clear hg1
 obtain ⟨c0, c1⟩ := HQ.pt (.tail _ (.head _))
 have HQ1 := Lib.hid HQ
 clear HQ
 go_wp2_with fail
 go_at_call 42
 refine (HLE.out _ _ HQ1.out).mono ?_
 rintro e' W2 ⟨hB, A1, c1', l', Ap1, cp1, rfl, hm, hr, hv, hrs⟩
 have hg := (HQ1.out.on hB).new #[.slice A1 (lsR o).length c1', .slice Ap1 l'.length cp1] 26
 have hba := (Below.refl _ W2).alloc (Nat.le_refl _) (Obj.cells #[.slice A1 (lsR o).length c1', .slice Ap1 l'.length cp1] 26 (0, 0))
 have hr2 := (hr.base HQ1.out.1).on hba
 have hv2 := (hv.base HQ1.out.1).on hba
 have hrs2 := (OwnRs.base hrs HQ1.out.1).on hba
 have ho2 : Og w A1 (lsR o) c1' Ap1 l'.length l' cp1 W2.heap.size _ _ := ⟨hg, hr2, hv2, hrs2⟩
 have hmem : ∀ x ∈ l', ∃ y ∈ l, x.par = lsP y.par := fun x hx => by
  have hx' : x.par ∈ l.map fun x => lsP x.par := by rw [← hm]; exact List.mem_map_of_mem hx
  obtain ⟨y, hy, e⟩ := List.mem_map.1 hx'
  exact ⟨y, hy, e.symm⟩
 have hlen : l'.length = l.length := by have := congrArg List.length hm; rwa [List.length_map, List.length_map] at this
 have HPA := Lib.hid (ho2.plan rfl (by rw [lsR_length]; exact HLO.out) (fun x hx => by
  obtain ⟨y, hy, e⟩ := hmem x hx
  rw [e]
  show (lsR y.par.ring).length ≤ 1000
  rw [lsR_length]; exact HLS.out y hy))
 have HCH := Lib.hid (fun W (hp : PlanAt W (lsR o) A1 c1' l' Ap1 cp1) => by
  have hx := ref_chk (lsR o) A1 c1' l' Ap1 cp1 (by rw [hlen]; exact HLL.out) (by rw [lsR_length]; have := HLO.out; omega) (fun x hx => by
   obtain ⟨y, hy, e⟩ := hmem x hx
   rw [e]; exact HOS.out y hy) W hp.prs hp.out
  rw [chkQ_of, hm] at hx
  exact hx)
 have HM := Lib.hid hm
 clear c0 c1 hB hg hba hr hv hrs hr2 hv2 hrs2 HLE hmem hlen hm
 go_upto_region 2 with (fail)
 generalize (World.alloc _ _) = W3 at ho2 HPA ⊢
 generalize W2.heap.size = g3 at ho2 ⊢
 obtain ⟨c0, c1⟩ := ho2.hold.pt (.head _)
 have HO2 := Lib.hid ho2
 clear ho2
 go_wp2_with fail
 go_at_call 12
 refine (HCH.out _ HPA.out).mono ?_
 rintro e' W4 ⟨rfl, hB⟩
 have ho4 := HO2.out.on hB
 have HO4 := Lib.hid ho4
 clear c0 c1 hB HCH HPA
 obtain ⟨c0, c1⟩ := ho4.hold.pt (.head _)
 obtain ⟨y0, y1⟩ := ho4.hold.pt (.tail _ (.head _))
 obtain ⟨z0, z1⟩ := ho4.hold.fz (.tail _ (.head _))
 clear ho4
 have p1 : (26 : Nat) ≠ 37 := by decide
 have p2 : (26 : Nat) ≠ 35 := by decide
 cases hck : chkQ (lsR o) (l.map fun x => lsP x.par)
 ·have HC := Lib.hid hck
  clear hck
  go_wp2
  have HE2 := HO4.out.hold.swap2 (.slice none 0 0) (.slice none 0 0)
  obtain ⟨n0, n1⟩ := HE2.pt (.tail _ (.head _))
  refine bodyPost_ret (v := .tuple #[.agg #[.slice none 0 0, .slice none 0 0], .int .i64 8]) ?_ rfl ⟨HE2.1, .inl ⟨HC.out, rfl⟩⟩
  simp [results, Tryz.results22, go_sem, n0, n1]
 ·have HC := Lib.hid hck
  clear hck
  go_wp2
  have HE2 := HO4.out.hold.swap2 (.slice A1 (lsR o).length c1') (.slice Ap1 l'.length cp1)
  have hh2 := (HO4.out.hold.2.1 _ (.tail _ (.head _))).1
  have hh2' := ((HO4.out.hold.swap 0 (.slice A1 (lsR o).length c1')).2.1 _ (.tail _ (.head _))).1
  have hv := row_far_set (row_far_set HO4.out.row.2 (row_block HO4.out.row.2 hh2 p1) 0 (.slice A1 (lsR o).length c1')) (row_block HO4.out.row.2 hh2 p1) 1 (.slice Ap1 l'.length cp1)
  have ho := row_far_set (row_far_set HO4.out.out.2 (row_block HO4.out.out.2 hh2 p2) 0 (.slice A1 (lsR o).length c1')) (row_block HO4.out.out.2 hh2 p2) 1 (.slice Ap1 l'.length cp1)
  have hrs := (HO4.out.rs.set hh2 p2 0 (.slice A1 (lsR o).length c1')).set hh2' p2 1 (.slice Ap1 l'.length cp1)
  obtain ⟨n0, n1⟩ := HE2.pt (.tail _ (.head _))
  refine bodyPost_ret (v := .tuple #[.agg #[.slice A1 (lsR o).length c1', .slice Ap1 l'.length cp1], .int .i64 0]) ?_ rfl ⟨HE2.1, .inr ⟨HC.out, A1, c1', l', Ap1, cp1, rfl, HM.out, ⟨HE2.1, ho⟩, ⟨HE2.1, hv⟩, hrs⟩⟩
  simp [results, Tryz.results22, go_sem, n0, n1]
end Go.Proofs.YtaedlfiafnbceaaGreat

namespace Go.Proofs.YtaedlfiafnbceaaGreat
open Go.RowKit

theorem behind_get {r : List (Int × Int)} {a : Int × Int} (ha : a ∈ r) {j : Nat} (hj : j + 1 < r.length) : (behind r a)[j]? = some (nx r (posL r a + 1 + j)) := by
 have hp := posL_lt ha
 unfold behind
 by_cases h : j < r.length - (posL r a + 1)
 ·rw [List.getElem?_append_left (by rw [List.length_drop]; omega), List.getElem?_drop, nx_lt (by omega), List.getElem?_eq_getElem (by omega)]
 ·rw [List.getElem?_append_right (by rw [List.length_drop]; omega), List.length_drop, List.getElem?_take_of_lt (by omega)]
  obtain ⟨m, hm⟩ : ∃ m, j = r.length - (posL r a + 1) + m := ⟨j - (r.length - (posL r a + 1)), by omega⟩
  have e : posL r a + 1 + j = m + r.length := by omega
  rw [e, nx_per, show j - (r.length - (posL r a + 1)) = m by omega, nx_lt (by omega), List.getElem?_eq_getElem (by omega)]
theorem arc_walk {r : List (Int × Int)} {a b : Int × Int} (ha : a ∈ r) (hb : b ∈ r) (hne : a ≠ b) : ∃ m, m + 1 < r.length ∧ nx r (posL r a + 1 + m) = b ∧ (∀ j, j < m → nx r (posL r a + 1 + j) ≠ b) ∧ arc r a b = (behind r a).take m ∧ ∀ j, j < m → (behind r a).take (j + 1) = (behind r a).take j ++ [nx r (posL r a + 1 + j)] := by
 have hm := mem_behind ha hb hne
 have hl := behind_len ha
 have h1 := posL_lt hm
 have h0 := posL_lt ha
 obtain ⟨h2, h3⟩ := posL_at hm
 refine ⟨posL (behind r a) b, by omega, ?_, fun j hj e => ?_, rfl, fun j hj => ?_⟩
 ·rw [behind_get ha (by omega)] at h2
  exact Option.some.inj h2
 ·exact h3 j hj (by rw [behind_get ha (by omega), e])
 ·rw [List.take_add_one, behind_get ha (by omega)]
  rfl
theorem closedL_rev {r path : List (Int × Int)} (h : 1 ≤ path.length) : closedL path.reverse r = path.reverse ++ arc r (pF path) (pL path) := by
 unfold closedL
 obtain ⟨e1, e2⟩ := rev_pF h
 rw [e1, e2]
theorem rev_step {path : List (Int × Int)} {i : Nat} (h : i < path.length) : (path.drop i).reverse = (path.drop (i + 1)).reverse ++ [nx path i] := by
 rw [List.drop_eq_getElem_cons h, List.reverse_cons, nx_lt h]
theorem sdV_side {r : List (Int × Int)} {p : Int × Int} (hn : NormP r) (hp : Gd p) : sdV r p = side r p := by
 unfold sdV sdE
 have h1 : ¬ chE r ≠ 0 := fun hh => hh hn.1
 rw [if_neg h1, gd_iff.2 hp]
 simp only [if_true]
 exact sideW_side (norm_sound hn)
section
variable {o : List (Int × Int)} {ps : List Par} {id : Int} {path : List (Int × Int)} {fresh : Int} {f : List (Int × Int) → List (Int × Int)}
noncomputable def putP (path : List (Int × Int)) (x : Par) : Par := ⟨x.id, putE x.ring path, x.own⟩
theorem cutQ_off : ∀ {A : List Par}, (∀ y ∈ A, y.id ≠ id) → cutQ f A id path fresh = A.map (putP path)
 |[], _ => rfl
 |y :: A, h => by
  have ih := cutQ_off (A := A) fun z hz => h z (List.mem_cons_of_mem _ hz)
  unfold cutQ at ih ⊢
  rw [List.flatMap_cons, ih, List.map_cons]
  unfold cutPar
  rw [if_neg (h y List.mem_cons_self)]
  rfl
theorem doc_perm (hP : PlanQ o ps) {k : Nat} (hk : k < ps.length) (hid : ps[k].id = id) : (((ps.map (putP path)).set k ⟨id, f (closedL path.reverse (putE ps[k].ring path)), ps[k].own⟩) ++ [(⟨fresh, f (closedL path (putE ps[k].ring path)), ps[k].own⟩ : Par)]).Perm (cutQ f ps id path fresh) := by
 have hd : ps = ps.take k ++ ps[k] :: ps.drop (k + 1) := by
  conv => lhs; rw [← List.take_append_drop k ps, List.drop_eq_getElem_cons hk]
 have hA : ∀ y ∈ ps.take k, y.id ≠ id := fun y hy e => by
  obtain ⟨i, hi, rfl⟩ := List.getElem_of_mem hy
  rw [List.length_take] at hi
  have h1 := List.pairwise_iff_getElem.1 hP.fine.1 i k (by omega) hk (by omega)
  rw [List.getElem_take] at e
  omega
 have hB : ∀ y ∈ ps.drop (k + 1), y.id ≠ id := fun y hy e => by
  obtain ⟨i, hi, rfl⟩ := List.getElem_of_mem hy
  rw [List.length_drop] at hi
  have h1 := List.pairwise_iff_getElem.1 hP.fine.1 k (k + 1 + i) hk (by omega) (by omega)
  rw [List.getElem_drop] at e
  omega
 have hlen : ((ps.take k).map (putP path)).length = k := by rw [List.length_map, List.length_take]; omega
 have e1 : cutQ f ps id path fresh = (ps.take k).map (putP path) ++ (⟨fresh, f (closedL path (putE ps[k].ring path)), ps[k].own⟩ :: ⟨id, f (closedL path.reverse (putE ps[k].ring path)), ps[k].own⟩ :: (ps.drop (k + 1)).map (putP path)) := by
  conv => lhs; rw [hd]
  unfold cutQ
  rw [List.flatMap_append, List.flatMap_cons]
  have a1 := cutQ_off (f := f) (path := path) (fresh := fresh) hA
  have a2 := cutQ_off (f := f) (path := path) (fresh := fresh) hB
  unfold cutQ at a1 a2
  rw [a1, a2]
  unfold cutPar
  rw [if_pos hid, hid]
  rfl
 have e2 : (ps.map (putP path)).set k ⟨id, f (closedL path.reverse (putE ps[k].ring path)), ps[k].own⟩ = (ps.take k).map (putP path) ++ (⟨id, f (closedL path.reverse (putE ps[k].ring path)), ps[k].own⟩ :: (ps.drop (k + 1)).map (putP path)) := by
  have : ps.map (putP path) = (ps.take k).map (putP path) ++ (putP path ps[k] :: (ps.drop (k + 1)).map (putP path)) := by
   conv => lhs; rw [hd]
   rw [List.map_append, List.map_cons]
  rw [this, List.set_append_right _ _ (by omega), hlen, Nat.sub_self, List.set_cons_zero]
 rw [e1, e2, List.append_assoc]
 refine List.Perm.append_left _ ?_
 rw [List.cons_append]
 exact (List.Perm.cons _ List.perm_append_comm).trans (List.Perm.swap _ _ _)
theorem lsP_putP (hP : PlanQ o ps) {x : Par} (hx : x ∈ ps) : lsP (putP path x) = putP path x := by
 unfold lsP putP
 have h := nrm_putC (nrm_putC (normP_iff.1 (hP.each x hx)).2 (pF path)) (pL path)
 have : lsR (putE x.ring path) = putE x.ring path := lstR_nrm h
 rw [this]
theorem doc_end (hP : PlanQ o ps) {k : Nat} (hk : k < ps.length) (hid : ps[k].id = id) (hf : fresh ∉ idsQ ps) {l' : List PV} (hp : (l'.map PV.par).Perm (((ps.map (putP path)).set k ⟨id, closedL path.reverse (putE ps[k].ring path), ps[k].own⟩) ++ [⟨fresh, closedL path (putE ps[k].ring path), ps[k].own⟩])) (hle : l'.Pairwise fun a b => a.par.id ≤ b.par.id) : (l'.map fun x => lsP x.par) = docL ps id path fresh := by
 unfold docL
 refine sorted_one ?_ ?_ (cutQ_ids lstR hP.ids hf).1
 ·have h1 := hp.map lsP
  rw [List.map_map] at h1
  refine (show (l'.map fun x => lsP x.par).Perm _ from h1).trans ?_
  rw [List.map_append, List.map_set, List.map_map]
  have e : ps.map (lsP ∘ putP path) = ps.map (putP path) := List.map_congr_left fun x hx => lsP_putP hP hx
  rw [e]
  exact doc_perm hP hk hid
 ·exact List.pairwise_map.2 (hle.imp fun h => h)
end
end Go.Proofs.YtaedlfiafnbceaaGreat

namespace Go.Proofs.YtaedlfiafnbceaaGreat
open Go.RowKit

def SndR (n : Nat) (r : List (Int × Int)) : Prop := Sound r ∧ gdL r = true ∧ r.length ≤ n ∧ Nrm r
def SndP (n : Nat) (o : List (Int × Int)) (qs : List Par) : Prop := SndR n o ∧ (∀ x ∈ qs, SndR n x.ring) ∧ qs.length ≤ 64
theorem PlanQ.snd {o : List (Int × Int)} {ps : List Par} (h : PlanQ o ps) : SndP 128 o ps :=
 ⟨⟨h.outP.1, h.outP.2.1, h.outP.2.2, (normP_iff.1 h.out).2⟩, fun x hx => ⟨(h.ringP hx).1, (h.ringP hx).2.1, (h.ringP hx).2.2, (normP_iff.1 (h.each x hx)).2⟩, h.fine.2.2.2.1⟩
theorem SndR.put {n : Nat} {r : List (Int × Int)} {p : Int × Int} (h : SndR n r) (hp : Gd p) : SndR (n + 1) (putC r p) :=
 ⟨(putC_sound h.1 p).2.1, gdL_iff.2 fun q hq => by
  rcases mem_putC hq with h1 | rfl
  ·exact gdL_iff.1 h.2.1 _ h1
  ·exact hp, by have := putC_len r p; have := h.2.2.1; omega, nrm_putC h.2.2.2 p⟩
theorem SndP.put {n : Nat} {o : List (Int × Int)} {qs : List Par} {p : Int × Int} (h : SndP n o qs) (hp : Gd p) : SndP (n + 1) (putC o p) (qs.map (ptP p)) :=
 ⟨h.1.put hp, fun x hx => by
  obtain ⟨y, hy, rfl⟩ := List.mem_map.1 hx
  exact (h.2.1 y hy).put hp, by rw [List.length_map]; exact h.2.2⟩
theorem lsR_snd {n : Nat} {r : List (Int × Int)} (h : SndR n r) : lsR r = r := lstR_nrm h.2.2.2
theorem ins_snd {n : Nat} (o : List (Int × Int)) (Ao : Option Addr) (co : Nat) (l : List PV) (Ap : Option Addr) (cp : Nat) (p : Int × Int) (hs : SndP n o (l.map PV.par)) (hn : n ≤ 900) (hp : Gd p) (w : World) (h : PlanAt w o Ao co l Ap cp) :
  Calls Tryz.prog 19 #[.agg #[.slice Ao o.length co, .slice Ap l.length cp], .agg #[.int .i64 p.1, .int .i64 p.2]] w fun e w' => OwnP w w' (putC o p) ((l.map PV.par).map (ptP p)) e := by
 have h64 : l.length ≤ 64 := by have := hs.2.2; rwa [List.length_map] at this
 have hx := Insert_own o Ao co l Ap cp p (by omega) ⟨hs.1.1, hs.1.2.1, by have := hs.1.2.2.1; omega⟩ (fun x hx => by
  have h1 := hs.2.1 x.par (List.mem_map_of_mem hx)
  exact ⟨h1.1, h1.2.1, by have := h1.2.2.1; omega⟩) hp w h
 have e1 : lsR (putC o p) = putC o p := lsR_snd (hs.1.put hp)
 have e2 : (l.map fun x => lsP (ptP p x.par)) = (l.map PV.par).map (ptP p) := by
  rw [List.map_map]
  refine List.map_congr_left fun x hx => ?_
  have h1 := lsR_snd ((hs.2.1 x.par (List.mem_map_of_mem hx)).put hp)
  show lsP (ptP p x.par) = ptP p x.par
  unfold lsP ptP at *
  rw [h1]
 rw [e1, e2] at hx
 exact hx
section
variable {w W : World} {A1 Ap : Option Addr} {o : List (Int × Int)} {c1 n cp g : Nat} {l : List PV} {K : List (Nat × Array Value × TypeId)} {x0 y0 : Value}
theorem Og.mkSet (hq : Hold w ((g, #[x0, y0], 26) :: K) W) (hr : Row w (.slice A1 o.length c1) o W) (hv : RowI w 37 3 encV (.slice Ap n cp) l W) (hrs : OwnRs w l W) : Og w A1 o c1 Ap n l cp g K ((W.setCell ⟨g, 0, none⟩ (.slice A1 o.length c1)).setCell ⟨g, 1, none⟩ (.slice Ap n cp)) := by
 have p1 : (26 : Nat) ≠ 37 := by decide
 have p2 : (26 : Nat) ≠ 35 := by decide
 have h1 := (hq.2.1 _ (.head _)).1
 have h2 := ((hq.set 0 (.slice A1 o.length c1)).2.1 _ (.head _)).1
 have hE := hq.set2 (.slice A1 o.length c1) (.slice Ap n cp)
 exact ⟨hE, ⟨hE.1, row_far_set (row_far_set hr.2 (row_block hr.2 h1 p2) _ _) (row_block hr.2 h1 p2) _ _⟩, ⟨hE.1, row_far_set (row_far_set hv.2 (row_block hv.2 h1 p1) _ _) (row_block hv.2 h1 p1) _ _⟩, (hrs.set h1 p2 0 _).set h2 p2 1 _⟩
theorem Og.mkNew (hq : Hold w K W) (hr : Row w (.slice A1 o.length c1) o W) (hv : RowI w 37 3 encV (.slice Ap n cp) l W) (hrs : OwnRs w l W) : Og w A1 o c1 Ap n l cp W.heap.size K (W.alloc (Obj.cells #[.slice A1 o.length c1, .slice Ap n cp] 26 (0, 0))) := by
 have hb := (Below.refl _ W).alloc (Nat.le_refl _) (Obj.cells #[.slice A1 o.length c1, .slice Ap n cp] 26 (0, 0))
 exact ⟨hq.new _ _, hr.on hb, hv.on hb, hrs.on hb⟩
theorem Og.row2 {A5 : Option Addr} {m c5 : Nat} {l' : List PV} (hq : Hold w ((g, #[.slice A1 o.length c1, y0], 26) :: K) W) (hr : Row w (.slice A1 o.length c1) o W) (hv : RowI w 37 3 encV (.slice A5 m c5) l' W) (hrs : OwnRs w l' W) : Og w A1 o c1 A5 m l' c5 g K (W.setCell ⟨g, 1, none⟩ (.slice A5 m c5)) := by
 have p1 : (26 : Nat) ≠ 37 := by decide
 have p2 : (26 : Nat) ≠ 35 := by decide
 have h1 := (hq.2.1 _ (.head _)).1
 have hE := hq.set 1 (.slice A5 m c5)
 exact ⟨hE, ⟨hE.1, row_far_set hr.2 (row_block hr.2 h1 p2) _ _⟩, ⟨hE.1, row_far_set hv.2 (row_block hv.2 h1 p1) _ _⟩, hrs.set h1 p2 1 _⟩
theorem Og.blk (h : Og w A1 o c1 Ap n l cp g K W) (h0 : 0 < l.length) : ∃ g' cs, Ap = some ⟨g', 0, none⟩ ∧ W.heap[g']? = some (.cells cs 37 (0, 0)) := by
 obtain ⟨hB, hl, h2⟩ := h.row
 rcases h2 with ⟨e, hz⟩ | ⟨g', cap', cur, e, hb, hh, hn, hc, hs, ht⟩
 ·omega
 ·obtain ⟨rfl, -, -⟩ := Value.slice.inj e
  exact ⟨g', cur, rfl, hh⟩
theorem Og.more (h : Og w A1 o c1 Ap l.length l cp g K W) {y : PV} {v' : Value} {W' : World} (hy : W.ownsRow w.heap.size 35 2 (.slice y.A y.par.ring.length y.cap) y.par.ring.length (flatP y.par.ring)) (hK : ∀ e ∈ K, e.2.2 ≠ 37)
  (hv : RowI w 37 3 encV v' (l ++ [y]) W') (hg : W.grownBy W' (Value.slice Ap l.length cp).ownBlock) :
  Hold w ((g, #[.slice A1 o.length c1, .slice Ap l.length cp], 26) :: K) W' ∧ Row w (.slice A1 o.length c1) o W' ∧ OwnRs w (l ++ [y]) W' := by
 have p1 : (35 : Nat) ≠ 37 := by decide
 refine ⟨Hold.grow h.hold hv.1 hg fun e he => ?_, ⟨hv.1, h.out.2.kept hg (rows_apart h.out.2 h.row.2 p1)⟩, fun x hx => ?_⟩
 ·refine h.row.apart (h.hold.2.1 e he).1 ?_
  rcases List.mem_cons.1 he with rfl | he
  ·exact (show (26 : Nat) ≠ 37 by decide)
  ·exact hK e he
 ·rcases List.mem_append.1 hx with hx | hx
  ·exact (h.rs x hx).kept hg (rows_apart (h.rs x hx) h.row.2 p1)
  ·obtain rfl := List.mem_singleton.1 hx
   exact hy.kept hg (rows_apart hy h.row.2 p1)
end
section
variable {o : List (Int × Int)} {ps : List Par} {id : Int} {path : List (Int × Int)} {fresh : Int}
noncomputable def preD (ps : List Par) (k : Nat) (id fresh : Int) (path : List (Int × Int)) (x : Par) : List Par := ((ps.map (putP path)).set k ⟨id, closedL path.reverse (putE x.ring path), x.own⟩) ++ [⟨fresh, closedL path (putE x.ring path), x.own⟩]
theorem pre_end (hP : PlanQ o ps) {k : Nat} {x : Par} (hx : ps[k]? = some x) (hid : x.id = id) (hf : fresh ∉ idsQ ps) {l' : List PV} (hp : (l'.map PV.par).Perm (preD ps k id fresh path x)) (hle : l'.Pairwise fun a b => a.par.id ≤ b.par.id) : (l'.map fun x => lsP x.par) = docL ps id path fresh := by
 have hk : k < ps.length := by
  rcases Nat.lt_or_ge k ps.length with h | h
  ·exact h
  ·rw [List.getElem?_eq_none h] at hx; cases hx
 rw [List.getElem?_eq_getElem hk] at hx
 obtain rfl := Option.some.inj hx
 exact doc_end hP hk hid hf hp hle
theorem pre_small (hP : PlanQ o ps) {k : Nat} {x : Par} (hx : ps[k]? = some x) (hn : path.length ≤ 128) : ∀ y ∈ preD ps k id fresh path x, y.ring.length ≤ 1000 ∧ ∃ z ∈ ps, y.own = z.own := fun y hy => by
 have hm : x ∈ ps := List.mem_of_getElem? hx
 have h0 := (hP.ringP hm).2.2
 have h1 := (putE_len x.ring path).2
 have h2 := closedL_len path (putE x.ring path)
 have h3 := closedL_len path.reverse (putE x.ring path)
 rw [List.length_reverse] at h3
 unfold preD at hy
 rcases List.mem_append.1 hy with hy | hy
 ·rcases List.mem_or_eq_of_mem_set hy with hy | rfl
  ·obtain ⟨z, hz, rfl⟩ := List.mem_map.1 hy
   have h4 := (putE_len z.ring path).2
   have h5 := (hP.ringP hz).2.2
   exact ⟨by show (putE z.ring path).length ≤ 1000; omega, z, hz, rfl⟩
  ·exact ⟨by show (closedL path.reverse _).length ≤ 1000; omega, x, hm, rfl⟩
 ·obtain rfl := List.mem_singleton.1 hy
  exact ⟨by show (closedL path _).length ≤ 1000; omega, x, hm, rfl⟩
end
theorem place_mod {q n : Nat} (hn : 0 < n) : ∃ j : Nat, j < n ∧ q % n = j ∧ (q : Int).tmod (n : Int) = (j : Int) :=
 ⟨q % n, Nat.mod_lt _ hn, rfl, by rw [Int.tmod_eq_emod_of_nonneg (by omega)]; exact (Int.natCast_emod q n).symm⟩
end Go.Proofs.YtaedlfiafnbceaaGreat
