/- The walk of PlanChecks. -/
import Derived.Test.YtbcmnhbpomjinaaGreatPlanB
namespace Go.Proofs.YtbcmnhbpomjinaaGreat
open Go.RowKit

section
variable {l l' : List PV}
theorem par_at (h : l'.map PV.par = l.map PV.par) {k : Nat} {x : PV} (hx : l[k]? = some x) : ∃ x', l'[k]? = some x' ∧ x'.par = x.par := by
  have := congrArg (fun q => q[k]?) h
  simp only [List.getElem?_map, hx, Option.map_some] at this
  cases h' : l'[k]? with
  | none => rw [h'] at this; cases this
  | some x' => rw [h'] at this; exact ⟨x', rfl, Option.some.inj this⟩
theorem par_none (h : l'.map PV.par = l.map PV.par) {k : Nat} (hx : l[k]? = none) : l'[k]? = none := by
  have := congrArg (fun q => q[k]?) h
  simp only [List.getElem?_map, hx, Option.map_none] at this
  cases h' : l'[k]? with
  | none => rfl
  | some x' => rw [h'] at this; cases this
theorem par_len (h : l'.map PV.par = l.map PV.par) : l'.length = l.length := by have := congrArg List.length h; rwa [List.length_map, List.length_map] at this
theorem cornN_par (o : List (Int × Int)) (h : l'.map PV.par = l.map PV.par) : ∀ k, cornN o l' k = cornN o l k
  | 0 => rfl
  | k + 1 => by
    cases hx : l[k]? with
    | none => rw [cornN, cornN, hx, par_none h hx, cornN_par o h k]
    | some x =>
      obtain ⟨x', hx', e⟩ := par_at h hx
      rw [cornN_succ hx, cornN_succ hx', e, cornN_par o h k]
theorem lastI_par (h : l'.map PV.par = l.map PV.par) : ∀ k, lastI l' k = lastI l k
  | 0 => rfl
  | k + 1 => by
    cases hx : l[k]? with
    | none => rw [lastI, lastI, hx, par_none h hx]
    | some x =>
      obtain ⟨x', hx', e⟩ := par_at h hx
      rw [lastI_succ hx, lastI_succ hx', e]
theorem areaS_par (h : l'.map PV.par = l.map PV.par) : ∀ k, areaS l' k = areaS l k
  | 0 => rfl
  | k + 1 => by
    cases hx : l[k]? with
    | none => rw [areaS, areaS, hx, par_none h hx, areaS_par h k]
    | some x =>
      obtain ⟨x', hx', e⟩ := par_at h hx
      rw [areaS_succ hx, areaS_succ hx', e, areaS_par h k]
theorem rings_par (h : l'.map PV.par = l.map PV.par) : rings l' = rings l := by
  have := congrArg (List.map Par.ring) h
  rwa [List.map_map, List.map_map] at this
theorem chk_par1 {o : List (Int × Int)} (h : l'.map PV.par = l.map PV.par) (hc : CheckP o l) : CheckP o l' := by
  obtain ⟨h1, h2, h3, h4, h5, h6, h7⟩ := hc
  have hr := rings_par h
  have hl := par_len h
  refine ⟨⟨fun k hk x hx => ?_, by rw [hl]; exact h1.2.1, by rw [hl]; exact h1.2.2.1, by rw [hl, cornN_par o h]; exact h1.2.2.2⟩, h2, fun x hx => ?_, by rw [hl, areaS_par h]; exact h4, by rw [hr]; exact h5, by rw [hr]; exact h6, by rw [hr]; exact h7⟩
  · obtain ⟨y, hy, e⟩ := par_at h.symm hx
    obtain ⟨a1, a2, a3, a4⟩ := h1.1 k (by omega) y hy
    rw [← e, lastI_par h, cornN_par o h]
    exact ⟨a1, a2, a3, a4⟩
  · have hm : x.par ∈ l.map PV.par := by rw [← h]; exact List.mem_map.2 ⟨x, hx, rfl⟩
    obtain ⟨y, hy, e⟩ := List.mem_map.1 hm
    rw [← e]; exact h3 y hy
theorem chkB_par (o : List (Int × Int)) (h : l'.map PV.par = l.map PV.par) : chkB o l' = chkB o l := by
  rw [Bool.eq_iff_iff, chkB_iff, chkB_iff]
  exact ⟨chk_par1 h.symm, chk_par1 h⟩
theorem own_par (h : l'.map PV.par = l.map PV.par) (ho : ∀ x ∈ l, x.par.own.size ≤ maxLen) : ∀ x ∈ l', x.par.own.size ≤ maxLen := fun x hx => by
  have hm : x.par ∈ l.map PV.par := by rw [← h]; exact List.mem_map.2 ⟨x, hx, rfl⟩
  obtain ⟨y, hy, e⟩ := List.mem_map.1 hm
  rw [← e]; exact ho y hy
end
/-- The program's Check of a plan that shares nothing: the error, by the document's word. -/
noncomputable def ckR (o : List (Int × Int)) (l : List PV) : Int := if chkB o l then 0 else 2
theorem ckR_true {o : List (Int × Int)} {l : List PV} (h : chkB o l = true) : ckR o l = 0 := by unfold ckR; rw [if_pos h]
theorem ckR_false {o : List (Int × Int)} {l : List PV} (h : chkB o l = false) : ckR o l = 2 := by unfold ckR; rw [h]; rfl
theorem ckE_eq (o : List (Int × Int)) (Ao : Option Addr) (co : Nat) {l l' : List PV} (h : l'.map PV.par = l.map PV.par) : ckE o Ao co l' = ckR o l := by unfold ckE ckR; rw [check_eq, chkB_par o h]
theorem owned_check {w : World} {o : List (Int × Int)} {A1 : Option Addr} {c1 : Nat} {l l' : List PV} {Ap1 : Option Addr} {cp1 : Nat} (hl : l.length ≤ 1000000) (ho : o.length ≤ 8796093022208) (hown : ∀ x ∈ l, x.par.own.size ≤ maxLen) (hm : l'.map PV.par = l.map PV.par) (h : PlanAt w o A1 c1 l' Ap1 cp1) :
    Calls Tryz.prog 43 #[.agg #[.slice A1 o.length c1, .slice Ap1 l.length cp1]] w fun e' w' => e' = .returned (.int .i64 (ckR o l)) ∧ Below w.heap.size w w' := by
  have := PCheck_any o A1 c1 l' Ap1 cp1 (by rw [par_len hm]; exact hl) ho h.caps.1 h.caps.2 (own_par hm hown) w h.prs h.out
  rw [ckE_eq o A1 c1 hm, par_len hm] at this
  exact this
end Go.Proofs.YtbcmnhbpomjinaaGreat

/- What follows of a sound plan, for its edges, corners and numbers. -/
namespace Go.Proofs.YtbcmnhbpomjinaaGreat

theorem check_fit {o : List (Int × Int)} {l : List PV} (h : CheckP o l) : Fit o (rings l) := by
  obtain ⟨hfine, hno, hnl, har, hed, hpr, hout⟩ := h
  exact fit_of (norm_sound hno) (fun r hr => by obtain ⟨x, hx, rfl⟩ := List.mem_map.1 hr; exact norm_sound (hnl x hx))
    (fun i hi => ⟨fun j hj hh => (hed i hi _ (List.getElem?_eq_getElem hi)).1 j hj (by rw [List.getElem?_eq_getElem (by omega), hh]), (hed i hi _ (List.getElem?_eq_getElem hi)).2⟩)
    (fun i j hij hj => hpr i j hij hj _ _ (List.getElem?_eq_getElem (by omega)) (List.getElem?_eq_getElem hj)) hout
theorem check_gd {o : List (Int × Int)} {l : List PV} (h : CheckP o l) : ∀ e ∈ edg o ++ edgs (rings l), Gd e.1 ∧ Gd e.2 := all_gd h.2.1 h.2.2.1
theorem check_ring {o : List (Int × Int)} {l : List PV} (h : CheckP o l) {x : PV} (hx : x ∈ l) : NormP x.par.ring := h.2.2.1 x hx
/-- Numbers rise. -/
theorem lastI_lt {l : List PV} (h : ∀ k, k < l.length → ∀ x, l[k]? = some x → lastI l k < x.par.id) : ∀ k, k ≤ l.length → ∀ j y, j < k → l[j]? = some y → y.par.id ≤ lastI l k
  | 0, _, j, y, hj, _ => absurd hj (by omega)
  | k + 1, hk, j, y, hj, hy => by
    have hz : l[k]? = some l[k] := List.getElem?_eq_getElem (by omega)
    rw [lastI_succ hz]
    by_cases e : j = k
    · subst e
      obtain rfl := Option.some.inj (hz.symm.trans hy)
      exact Int.le_refl _
    · have h1 := lastI_lt h k (by omega) j y (by omega) hy
      have := h k (by omega) _ hz
      omega
theorem check_rise {o : List (Int × Int)} {l : List PV} (h : CheckP o l) {i j : Nat} {x y : PV} (hij : i < j) (hx : l[i]? = some x) (hy : l[j]? = some y) : x.par.id < y.par.id := by
  have hj : j < l.length := by
    by_cases hjl : j < l.length
    · exact hjl
    · rw [List.getElem?_eq_none (by omega)] at hy; cases hy
  have hf := fun k (hk : k < l.length) x (hx : l[k]? = some x) => (h.1.1 k hk x hx).2.1
  have h1 := lastI_lt hf j (by omega) i x hij hx
  have h2 := hf j hj y hy
  omega
theorem check_pos {o : List (Int × Int)} {l : List PV} (h : CheckP o l) {x : PV} (hx : x ∈ l) : 1 ≤ x.par.id ∧ x.par.id ≤ 1073741824 := by
  obtain ⟨k, hk, rfl⟩ := List.getElem_of_mem hx
  have := (h.1.1 k hk _ (List.getElem?_eq_getElem hk)).1
  unfold idB at this
  rw [Bool.and_eq_true, decide_eq_true_iff, decide_eq_true_iff] at this
  exact this
theorem check_one {o : List (Int × Int)} {l : List PV} (h : CheckP o l) {x y : PV} (hx : x ∈ l) (hy : y ∈ l) (e : x.par.id = y.par.id) : x = y := by
  obtain ⟨i, hi, rfl⟩ := List.getElem_of_mem hx
  obtain ⟨j, hj, rfl⟩ := List.getElem_of_mem hy
  have h1 := List.getElem?_eq_getElem hi
  have h2 := List.getElem?_eq_getElem hj
  rcases Nat.lt_trichotomy i j with hl | rfl | hl
  · have := check_rise h hl h1 h2; omega
  · rfl
  · have := check_rise h hl h2 h1; omega

/-- Whose an edge is: its parcel's number, 0 for none. -/
def whoI (l : List PV) (e : (Int × Int) × (Int × Int)) : Nat → Int
  | 0 => 0
  | k + 1 => match l[k]? with | some x => if e ∈ edg x.par.ring then x.par.id else whoI l e k | none => whoI l e k
theorem whoI_yes {l : List PV} {e : (Int × Int) × (Int × Int)} {k : Nat} {x : PV} (h : l[k]? = some x) (he : e ∈ edg x.par.ring) : whoI l e (k + 1) = x.par.id := by
  rw [whoI, h]; exact if_pos he
theorem whoI_no {l : List PV} {e : (Int × Int) × (Int × Int)} {k : Nat} {x : PV} (h : l[k]? = some x) (he : e ∉ edg x.par.ring) : whoI l e (k + 1) = whoI l e k := by
  rw [whoI, h]; exact if_neg he
theorem whoI_none {l : List PV} {e : (Int × Int) × (Int × Int)} : ∀ {k : Nat}, (∀ x ∈ l.take k, e ∉ edg x.par.ring) → whoI l e k = 0
  | 0, _ => rfl
  | k + 1, h => by
    cases hx : l[k]? with
    | none => rw [whoI, hx]; exact whoI_none (fun x hx => h x (List.take_subset_take_left l (Nat.le_succ k) hx))
    | some x =>
      rw [whoI_no hx (h x (List.mem_take_iff_getElem.2 ⟨k, by
        have : k < l.length := by
          by_cases hl : k < l.length
          · exact hl
          · rw [List.getElem?_eq_none (by omega)] at hx; cases hx
        omega, by rw [List.getElem?_eq_some_iff] at hx; exact hx.2⟩))]
      exact whoI_none (fun x hx => h x (List.take_subset_take_left l (Nat.le_succ k) hx))
theorem whoI_one {l : List PV} {e : (Int × Int) × (Int × Int)} {x : PV} (hx : x ∈ l) (he : e ∈ edg x.par.ring) (hu : ∀ y ∈ l, e ∈ edg y.par.ring → y.par.id = x.par.id) : whoI l e l.length = x.par.id := by
  have : ∀ k, k ≤ l.length → (∃ y ∈ l.take k, e ∈ edg y.par.ring) → whoI l e k = x.par.id := by
    intro k
    induction k with
    | zero => intro _ ⟨y, hy, _⟩; rw [List.take_zero] at hy; cases hy
    | succ k ih =>
      intro hk ⟨y, hy, hye⟩
      have hz : l[k]? = some l[k] := List.getElem?_eq_getElem (by omega)
      by_cases h : e ∈ edg l[k].par.ring
      · rw [whoI_yes hz h]; exact hu _ (List.getElem_mem _) h
      · rw [whoI_no hz h]
        refine ih (by omega) ⟨y, ?_, hye⟩
        rw [List.take_succ_eq_append_getElem (by omega), List.mem_append, List.mem_singleton] at hy
        rcases hy with hy | rfl
        · exact hy
        · exact absurd hye h
  exact this l.length (Nat.le_refl _) ⟨x, by rw [List.take_length]; exact hx, he⟩
theorem mem_ownL {l : List PV} {e : (Int × Int) × (Int × Int)} {n : Int} : (e, n) ∈ ownL l ↔ ∃ x ∈ l, e ∈ edg x.par.ring ∧ n = x.par.id := by
  unfold ownL
  simp only [List.mem_flatMap, List.mem_map, Prod.mk.injEq]
  constructor
  · rintro ⟨x, hx, a, ha, rfl, rfl⟩; exact ⟨x, hx, ha, rfl⟩
  · rintro ⟨x, hx, he, rfl⟩; exact ⟨x, hx, e, he, rfl, rfl⟩
theorem nodup_two {l : List (List ((Int × Int) × (Int × Int)))} (h : (l.flatten).Nodup) {i j : Nat} (hi : i < l.length) (hj : j < l.length) {e : (Int × Int) × (Int × Int)} (h1 : e ∈ l[i]) (h2 : e ∈ l[j]) : i = j := by
  have hp := List.pairwise_iff_getElem.1 (List.pairwise_flatten.1 h).2
  rcases Nat.lt_trichotomy i j with hl | rfl | hl
  · exact absurd rfl ((hp i j hi hj hl) e h1 e h2)
  · rfl
  · exact absurd rfl ((hp j i hj hi hl) e h2 e h1)
theorem edgs_one {l : List PV} (h : (edgs (rings l)).Nodup) {x y : PV} (hx : x ∈ l) (hy : y ∈ l) {e : (Int × Int) × (Int × Int)} (h1 : e ∈ edg x.par.ring) (h2 : e ∈ edg y.par.ring) : x = y := by
  obtain ⟨i, hi, rfl⟩ := List.getElem_of_mem hx
  obtain ⟨j, hj, rfl⟩ := List.getElem_of_mem hy
  have e1 : edgs (rings l) = (l.map fun x => edg x.par.ring).flatten := by
    unfold edgs rings
    rw [List.flatMap_map, List.flatMap_def]
  rw [e1] at h
  have := nodup_two h (i := i) (j := j) (by rw [List.length_map]; exact hi) (by rw [List.length_map]; exact hj) (e := e) (by rw [List.getElem_map]; exact h1) (by rw [List.getElem_map]; exact h2)
  subst this; rfl
/-- The program's map of edges and the document's search tell the same. -/
theorem whoI_own {o : List (Int × Int)} {l : List PV} (h : CheckP o l) {e : (Int × Int) × (Int × Int)} {n : Int} (he : (e, n) ∈ ownL l) : whoI l e l.length = n ∧ 1 ≤ n := by
  obtain ⟨x, hx, h1, rfl⟩ := mem_ownL.1 he
  exact ⟨whoI_one hx h1 fun y hy h2 => by rw [edgs_one (check_fit h).once hy hx h2 h1], (check_pos h hx).1⟩
theorem whoI_zero {l : List PV} {e : (Int × Int) × (Int × Int)} (he : e ∉ (ownL l).map Prod.fst) : whoI l e l.length = 0 := by
  refine whoI_none fun x hx h => he ?_
  rw [List.take_length] at hx
  exact List.mem_map.2 ⟨(e, x.par.id), mem_ownL.2 ⟨x, hx, h, rfl⟩, rfl⟩
theorem whoI_par {l l' : List PV} (h : l'.map PV.par = l.map PV.par) (e : (Int × Int) × (Int × Int)) : ∀ k, whoI l' e k = whoI l e k
  | 0 => rfl
  | k + 1 => by
    cases hx : l[k]? with
    | none => rw [whoI, whoI, hx, par_none h hx]; exact whoI_par h e k
    | some x =>
      obtain ⟨x', hx', e1⟩ := par_at h hx
      rw [whoI, whoI, hx, hx']
      simp only
      rw [e1, whoI_par h e k]
/-- A corner of any ring is one of a parcel's. -/
theorem corner_any {o : List (Int × Int)} {l : List PV} (h : CheckP o l) (p : Int × Int) : (p ∈ o ∨ ∃ x ∈ l, p ∈ x.par.ring) ↔ ∃ x ∈ l, p ∈ x.par.ring := by
  refine ⟨fun h1 => ?_, .inr⟩
  rcases h1 with h1 | h1
  · obtain ⟨i, hi, rfl⟩ := List.getElem_of_mem h1
    have he : (nx o i, nx o (i + 1)) ∈ edg o := mem_edg.2 ⟨i, hi, rfl⟩
    obtain ⟨r, hr, h2⟩ := mem_edgs.1 (h.2.2.2.2.2.2 _ he)
    obtain ⟨x, hx, rfl⟩ := List.mem_map.1 hr
    obtain ⟨j, hj, h3⟩ := mem_edg.1 h2
    refine ⟨x, hx, ?_⟩
    have h4 := (Prod.ext_iff.1 h3).1
    simp only at h4
    rw [nx_lt hi, nx_lt hj] at h4
    rw [h4]; exact List.getElem_mem hj
  · exact h1
end Go.Proofs.YtbcmnhbpomjinaaGreat

/- The program's Left: whose an edge is. -/
namespace Go.Proofs.YtbcmnhbpomjinaaGreat
open Go.RowKit

/-- The program's Check, in the document's words. -/
theorem check_any {w : World} {o : List (Int × Int)} {Ao : Option Addr} {co : Nat} {l : List PV} {Ap : Option Addr} {cp : Nat} (hl : l.length ≤ 1000000) (ho : o.length ≤ 8796093022208) (hown : ∀ x ∈ l, x.par.own.size ≤ maxLen) (h : PlanAt w o Ao co l Ap cp) :
    Calls Tryz.prog 43 #[.agg #[.slice Ao o.length co, .slice Ap l.length cp]] w fun e' w' => e' = .returned (.int .i64 (ckR o l)) ∧ Below w.heap.size w w' := owned_check hl ho hown rfl h
noncomputable def lfV (o : List (Int × Int)) (l : List PV) (e : (Int × Int) × (Int × Int)) : Int := if chkB o l then whoI l e l.length else 0
noncomputable def lfE (o : List (Int × Int)) (l : List PV) (e : (Int × Int) × (Int × Int)) : Int := if chkB o l then (if whoI l e l.length = 0 then 5 else 0) else 2
theorem lf_bad {o : List (Int × Int)} {l : List PV} (e : (Int × Int) × (Int × Int)) (h : chkB o l = false) : lfV o l e = 0 ∧ lfE o l e = 2 := by unfold lfV lfE; rw [h]; exact ⟨rfl, rfl⟩
theorem lf_none {o : List (Int × Int)} {l : List PV} {e : (Int × Int) × (Int × Int)} (h : chkB o l = true) (hw : whoI l e l.length = 0) : lfV o l e = 0 ∧ lfE o l e = 5 := by unfold lfV lfE; rw [h, hw]; exact ⟨rfl, rfl⟩
theorem lf_some {o : List (Int × Int)} {l : List PV} {e : (Int × Int) × (Int × Int)} {n : Int} (h : chkB o l = true) (hw : whoI l e l.length = n) (hn : 1 ≤ n) : lfV o l e = n ∧ lfE o l e = 0 := by
  unfold lfV lfE; rw [h, hw]; exact ⟨rfl, by rw [if_pos rfl, if_neg (by omega)]⟩
theorem lf_par {o : List (Int × Int)} {l l' : List PV} (h : l'.map PV.par = l.map PV.par) (e : (Int × Int) × (Int × Int)) : lfV o l' e = lfV o l e ∧ lfE o l' e = lfE o l e := by
  unfold lfV lfE; rw [chkB_par o h, par_len h, whoI_par h]; exact ⟨rfl, rfl⟩
/-- A sound plan is small. -/
theorem check_edges {o : List (Int × Int)} {l : List PV} (h : CheckP o l) : (edgs (rings l)).length ≤ 1000000 := by
  have h1 := edgs_cornN o l l.length (Nat.le_refl _)
  rw [List.take_length] at h1
  have := h.1.2.2.2
  omega
theorem check_pts {o : List (Int × Int)} {l : List PV} (h : CheckP o l) : ∀ x ∈ l, ∀ p ∈ x.par.ring, Gd p := fun x hx => (normP_small (h.2.2.1 x hx)).2.2
set_option maxRecDepth 100000 in
set_option maxHeartbeats 1000000 in
theorem Left_any (o : List (Int × Int)) (Ao : Option Addr) (co : Nat) (l : List PV) (Ap : Option Addr) (cp : Nat) (e : (Int × Int) × (Int × Int)) (hl : l.length ≤ 1000000) (ho : o.length ≤ 8796093022208) (hown : ∀ x ∈ l, x.par.own.size ≤ maxLen) (he : OkE e) (w : World) (h : PlanAt w o Ao co l Ap cp) :
    Calls Tryz.prog 19 #[.agg #[.slice Ao o.length co, .slice Ap l.length cp], .agg #[.int .i64 e.1.1, .int .i64 e.1.2, .int .i64 e.2.1, .int .i64 e.2.2]] w fun e' w' => e' = .returned (.tuple #[.int .i64 (lfV o l e), .int .i64 (lfE o l e)]) ∧ Below w.heap.size w w' := by
  have HCK := Lib.hid (fun W (hb : Below w.heap.size w W) => check_any hl ho hown (h.on hb))
  have HPR := Lib.hid (fun W (hb : Below w.heap.size w W) => h.prs.on hb)
  have HL := Lib.hid hl
  have HE := Lib.hid he
  have HQ := ((Hold.refl w).new #[.slice Ao o.length co, .slice Ap l.length cp] 26).new' #[.int .i64 e.1.1, .int .i64 e.1.2, .int .i64 e.2.1, .int .i64 e.2.2] 30 (n := w.heap.size + 1) (by simp)
  clear h hl ho hown he
  go_enter Tryz.func19, Tryz.ntmps19
  go_upto_region 1 with (fail)
  generalize (World.alloc _ _) = W1 at HQ ⊢
  generalize w.heap.size + 1 = g1 at HQ ⊢
  obtain ⟨g0, hg0⟩ : ∃ g, w.heap.size = g := ⟨_, rfl⟩
  rw [hg0] at HQ ⊢
  have HG0 := Lib.hid hg0
  clear hg0
  obtain ⟨c0, c1⟩ := HQ.pt (.tail _ (.head _))
  have HQX := Lib.hid HQ
  clear HQ
  go_wp2_with fail
  go_at_call 43
  refine (HCK.out _ HQX.out.1).mono ?_
  rintro e' W2 ⟨rfl, hB⟩
  have hq := HQX.out.on hB
  have HQ2 := Lib.hid hq
  clear c0 c1 hB
  obtain ⟨c0, c1⟩ := hq.pt (.tail _ (.head _))
  obtain ⟨d0, d1, d2, d3⟩ := hq.q4 (.head _)
  clear hq
  cases hcb : chkB o l
  · rw [ckR_false hcb]
    have HR := Lib.hid (lf_bad e hcb)
    clear hcb
    go_wp2
    refine bodyPost_ret (v := .tuple #[.int .i64 0, .int .i64 2]) ?_ rfl ⟨by rw [HR.out.1, HR.out.2], HQ2.out.1⟩
    simp [results, Tryz.results19, go_sem]
  · rw [ckR_true hcb]
    have HCP : Hid (CheckP o l) := chkB_iff.1 hcb
    have HCB := Lib.hid hcb
    clear hcb
    have HS := Lib.hid (sides_any l Ap cp (check_edges HCP.out) HL.out (check_pts HCP.out) W2 (HPR.out _ HQ2.out.1))
    go_wp2_with fail
    go_at_call 49
    refine HS.out.mono ?_
    rintro e' W3 ⟨hB, ⟨rfl, hnd⟩ | ⟨b, rfl, hb, -, hM⟩⟩
    · exact absurd (check_fit HCP.out).once hnd
    · have hq := HQ2.out.on hB
      have HB3 := Lib.hid hq.1
      clear c0 c1 d0 d1 d2 d3
      obtain ⟨d0, d1, d2, d3⟩ := hq.q4 (.head _)
      have HM := Lib.hid hM
      clear hM hB hq HS
      by_cases hk : e ∈ (ownL l).map Prod.fst
      · have HK := Lib.hid hk
        have HW : Hid (∀ n, (e, n) ∈ ownL l → lfV o l e = n ∧ lfE o l e = 0) := fun n hn => lf_some HCB.out (whoI_own HCP.out hn).1 (whoI_own HCP.out hn).2
        clear hk
        go_wp2_with (at_lookup; refine wp_look_yes (z := 0) rfl _ _ 81 rfl 3 keyE Tryz.underlying81 (zeroI _) b rfl HM.out HE.out HK.out rfl ?_; intro y9 hy9; have HY := Lib.hid (HW.out y9 hy9); clear hy9)
        refine bodyPost_ret (v := .tuple #[.int .i64 y9, .int .i64 0]) ?_ rfl ⟨by rw [HY.out.1, HY.out.2], HB3.out⟩
        simp [results, Tryz.results19, go_sem, iv]
      · have HK := Lib.hid hk
        have HW := Lib.hid (lf_none HCB.out (whoI_zero hk))
        clear hk
        go_wp2_with (at_lookup; refine wp_look_no (z := 0) rfl _ _ 81 rfl 3 keyE Tryz.underlying81 (zeroI _) b rfl HM.out HE.out HK.out rfl ?_)
        refine bodyPost_ret (v := .tuple #[.int .i64 0, .int .i64 5]) ?_ rfl ⟨by rw [HW.out.1, HW.out.2], HB3.out⟩
        simp [results, Tryz.results19, go_sem]
end Go.Proofs.YtbcmnhbpomjinaaGreat
