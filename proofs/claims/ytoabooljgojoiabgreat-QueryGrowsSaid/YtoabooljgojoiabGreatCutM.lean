/- Plans in plain terms: what a sound one is, whatever the order of its parcels; ways as lists of steps. -/
import Derived.Test.YtoabooljgojoiabGreatCutP
import Derived.Test.YtoabooljgojoiabGreatPgO
namespace Go.Proofs.YtoabooljgojoiabGreat
open Go.RowKit

theorem getQ_par {l l' : List PV} (h : l.map PV.par = l'.map PV.par) (k : Nat) : (l[k]?).map PV.par = (l'[k]?).map PV.par := by
 rw [← List.getElem?_map, h, List.getElem?_map]
theorem cornQ_par {o : List (Int × Int)} {l l' : List PV} (h : l.map PV.par = l'.map PV.par) : ∀ k, cornN o l k = cornN o l' k
 |0 => rfl
 |k + 1 => by
  have hk := getQ_par h k
  rw [cornN, cornN, cornQ_par h k]
  cases h1 : l[k]? with
  |none => cases h2 : l'[k]? with
   |none => rfl
   |some y => rw [h1, h2] at hk; cases hk
  |some x => cases h2 : l'[k]? with
   |none => rw [h1, h2] at hk; cases hk
   |some y => rw [h1, h2] at hk; simp only [Option.map_some, Option.some.injEq] at hk; simp only [hk]
theorem lastQ_par {l l' : List PV} (h : l.map PV.par = l'.map PV.par) : ∀ k, lastI l k = lastI l' k
 |0 => rfl
 |k + 1 => by
  have hk := getQ_par h k
  rw [lastI, lastI]
  cases h1 : l[k]? with
  |none => cases h2 : l'[k]? with
   |none => rfl
   |some y => rw [h1, h2] at hk; cases hk
  |some x => cases h2 : l'[k]? with
   |none => rw [h1, h2] at hk; cases hk
   |some y => rw [h1, h2] at hk; simp only [Option.map_some, Option.some.injEq] at hk; simp only [hk]
theorem areaQ_par {l l' : List PV} (h : l.map PV.par = l'.map PV.par) : ∀ k, areaS l k = areaS l' k
 |0 => rfl
 |k + 1 => by
  have hk := getQ_par h k
  rw [areaS, areaS, areaQ_par h k]
  cases h1 : l[k]? with
  |none => cases h2 : l'[k]? with
   |none => rfl
   |some y => rw [h1, h2] at hk; cases hk
  |some x => cases h2 : l'[k]? with
   |none => rw [h1, h2] at hk; cases hk
   |some y => rw [h1, h2] at hk; simp only [Option.map_some, Option.some.injEq] at hk; simp only [hk]
theorem lenQ_par {l l' : List PV} (h : l.map PV.par = l'.map PV.par) : l.length = l'.length := by
 have := congrArg List.length h
 rwa [List.length_map, List.length_map] at this
theorem ringsQ_par {l l' : List PV} (h : l.map PV.par = l'.map PV.par) : rings l = rings l' := by
 have e : ∀ m : List PV, rings m = (m.map PV.par).map Par.ring := fun m => by unfold rings; rw [List.map_map]; rfl
 rw [e, e, h]
theorem memQ_par {l l' : List PV} (h : l.map PV.par = l'.map PV.par) {x : PV} (hx : x ∈ l') : ∃ y ∈ l, y.par = x.par := by
 have : x.par ∈ l.map PV.par := by rw [h]; exact List.mem_map_of_mem hx
 obtain ⟨y, hy, e⟩ := List.mem_map.1 this
 exact ⟨y, hy, e⟩
theorem checkQ_par {o : List (Int × Int)} {l l' : List PV} (h : l.map PV.par = l'.map PV.par) (hc : CheckP o l) : CheckP o l' := by
 obtain ⟨⟨f1, f2, f3, f4⟩, n0, n1, a, e1, e2, e3⟩ := hc
 have hl := lenQ_par h
 have hr := ringsQ_par h
 refine ⟨⟨fun k hk x hx => ?_, by omega, by omega, by rw [← cornQ_par h, ← hl]; exact f4⟩, n0, fun x hx => ?_, by rw [← areaQ_par h, ← hl]; exact a, by rw [← hr]; exact e1, by rw [← hr]; exact e2, by rw [← hr]; exact e3⟩
 ·have hg := getQ_par h k
  rw [hx] at hg
  cases h1 : l[k]? with
  |none => rw [h1] at hg; cases hg
  |some y =>
   rw [h1] at hg
   simp only [Option.map_some, Option.some.injEq] at hg
   have := f1 k (by omega) y h1
   rw [hg, lastQ_par h, cornQ_par h] at this
   exact this
 ·obtain ⟨y, hy, e⟩ := memQ_par h hx
  rw [← e]; exact n1 y hy
theorem chkQ_par {o : List (Int × Int)} {l l' : List PV} (h : l.map PV.par = l'.map PV.par) : chkB o l = chkB o l' := by
 rw [Bool.eq_iff_iff, chkB_iff, chkB_iff]
 exact ⟨checkQ_par h, checkQ_par h.symm⟩
def pvs (ps : List Par) : List PV := ps.map fun x => ⟨x, none, 0⟩
theorem pvs_par (ps : List Par) : (pvs ps).map PV.par = ps := by unfold pvs; rw [List.map_map]; simp [Function.comp_def]
noncomputable def chkQ (o : List (Int × Int)) (ps : List Par) : Bool := chkB o (pvs ps)
theorem chkQ_of (o : List (Int × Int)) (l : List PV) : chkB o l = chkQ o (l.map PV.par) := chkQ_par (pvs_par _).symm

def FineQ (o : List (Int × Int)) (ps : List Par) : Prop := ps.Pairwise (fun a b => a.id < b.id) ∧ (∀ x ∈ ps, idB x.id = true ∧ OwnOk x.own) ∧ 1 ≤ ps.length ∧ ps.length ≤ 64 ∧ o.length + sumL (fun x => (x.ring.length : Int)) ps ≤ 1024
def ringsQ (ps : List Par) : List (List (Int × Int)) := ps.map Par.ring
theorem rings_pvs (ps : List Par) : rings (pvs ps) = ringsQ ps := by unfold rings pvs ringsQ; rw [List.map_map]; rfl
theorem corn_sum (o : List (Int × Int)) (ps : List Par) : ∀ k, k ≤ ps.length → (cornN o (pvs ps) k : Int) = o.length + sumL (fun x => (x.ring.length : Int)) (ps.take k)
 |0, _ => by simp [cornN, sumL]
 |k + 1, h => by
  have hx : (pvs ps)[k]? = some ⟨ps[k], none, 0⟩ := by unfold pvs; rw [List.getElem?_map, List.getElem?_eq_getElem (by omega)]; rfl
  rw [cornN_succ hx, List.take_succ_eq_append_getElem (by omega), sumL_append, Int.natCast_add, corn_sum o ps k (by omega)]
  simp only [sumL]
  omega
theorem area_sumQ (ps : List Par) : ∀ k, k ≤ ps.length → areaS (pvs ps) k = sumL (fun x => area x.ring) (ps.take k)
 |0, _ => by simp [areaS, sumL]
 |k + 1, h => by
  have hx : (pvs ps)[k]? = some ⟨ps[k], none, 0⟩ := by unfold pvs; rw [List.getElem?_map, List.getElem?_eq_getElem (by omega)]; rfl
  rw [areaS_succ hx, List.take_succ_eq_append_getElem (by omega), sumL_append, area_sumQ ps k (by omega)]
  simp only [sumL]
  omega
theorem last_id (ps : List Par) {k : Nat} (hk : k < ps.length) : lastI (pvs ps) (k + 1) = ps[k].id := by
 have hx : (pvs ps)[k]? = some ⟨ps[k], none, 0⟩ := by unfold pvs; rw [List.getElem?_map, List.getElem?_eq_getElem hk]; rfl
 rw [lastI_succ hx]
theorem pvs_at (ps : List Par) {k : Nat} (hk : k < ps.length) : (pvs ps)[k]? = some ⟨ps[k], none, 0⟩ := by unfold pvs; rw [List.getElem?_map, List.getElem?_eq_getElem hk]; rfl
theorem pvs_len (ps : List Par) : (pvs ps).length = ps.length := by unfold pvs; rw [List.length_map]
theorem id_pos {n : Int} (h : idB n = true) : 1 ≤ n ∧ n ≤ 1073741824 := by
 unfold idB at h
 rwa [Bool.and_eq_true, decide_eq_true_iff, decide_eq_true_iff] at h
theorem fineQ_iff (o : List (Int × Int)) (ps : List Par) : FineP o (pvs ps) ↔ FineQ o ps := by
 have hc := corn_sum o ps ps.length (Nat.le_refl _)
 rw [List.take_length] at hc
 constructor
 ·rintro ⟨h1, h2, h3, h4⟩
  rw [pvs_len] at *
  refine ⟨?_, fun x hx => ?_, h2, h3, by omega⟩
  ·have step : ∀ j, j + 1 < ps.length → ∀ (a : j < ps.length) (b : j + 1 < ps.length), ps[j].id < ps[j + 1].id := fun j hj a b => by
    have := (h1 (j + 1) b _ (pvs_at ps b)).2.1
    rwa [last_id ps a] at this
   refine List.pairwise_iff_getElem.2 fun i j hi hj hij => ?_
   obtain ⟨d, rfl⟩ : ∃ d, j = i + 1 + d := ⟨j - (i + 1), by omega⟩
   clear hij
   induction d with
   |zero => exact step i (by omega) _ _
   |succ d ih =>
    have h5 := ih (by omega)
    have h6 := step (i + 1 + d) (by omega) (by omega) (by omega)
    have e : i + 1 + (d + 1) = i + 1 + d + 1 := by omega
    simp only [e]
    omega
  ·obtain ⟨k, hk, rfl⟩ := List.getElem_of_mem hx
   have := h1 k hk _ (pvs_at ps hk)
   exact ⟨this.1, this.2.2.1⟩
 ·rintro ⟨h1, h2, h3, h4, h5⟩
  refine ⟨fun k hk x hx => ?_, by rw [pvs_len]; exact h3, by rw [pvs_len]; exact h4, by rw [pvs_len]; omega⟩
  rw [pvs_len] at hk
  rw [pvs_at ps hk] at hx
  obtain rfl := Option.some.inj hx
  obtain ⟨h6, h7⟩ := h2 ps[k] (List.getElem_mem hk)
  refine ⟨h6, ?_, h7, ?_⟩
  ·cases k with
   |zero => have := id_pos h6; show (0 : Int) < ps[0].id; omega
   |succ k =>
    rw [last_id ps (by omega)]
    exact List.pairwise_iff_getElem.1 h1 k (k + 1) (by omega) hk (by omega)
  ·have := cornN_mono (o := o) (l := pvs ps) (show k + 1 ≤ ps.length by omega)
   omega
structure PlanQ (o : List (Int × Int)) (ps : List Par) : Prop where
 fine : FineQ o ps
 out : NormP o
 each : ∀ x ∈ ps, NormP x.ring
 sum : sumL (fun x => area x.ring) ps = area o
 fit : Fit o (ringsQ ps)
theorem chkQ_iff (o : List (Int × Int)) (ps : List Par) : chkQ o ps = true ↔ PlanQ o ps := by
 unfold chkQ
 rw [chkB_iff]
 have hr := rings_pvs ps
 constructor
 ·rintro ⟨h1, h2, h3, h4, h5, h6, h7⟩
  rw [pvs_len, area_sumQ ps _ (Nat.le_refl _), List.take_length] at h4
  have he : ∀ x ∈ ps, NormP x.ring := fun x hx => h3 ⟨x, none, 0⟩ (by unfold pvs; exact List.mem_map.2 ⟨x, hx, rfl⟩)
  rw [hr] at h5 h6 h7
  refine ⟨(fineQ_iff o ps).1 h1, h2, he, h4, fit_of (norm_sound h2) (fun r hr => ?_) (fun i hi => ?_) (fun i j hij hj => ?_) h7⟩
  ·obtain ⟨x, hx, rfl⟩ := List.mem_map.1 hr
   exact norm_sound (he x hx)
  ·obtain ⟨g1, g2⟩ := h5 i hi _ (List.getElem?_eq_getElem hi)
   exact ⟨fun j hj e => g1 j hj (by rw [List.getElem?_eq_getElem (by omega), e]), g2⟩
  ·exact h6 i j hij hj _ _ (List.getElem?_eq_getElem _) (List.getElem?_eq_getElem _)
 ·rintro ⟨h1, h2, h3, h4, h5⟩
  obtain ⟨t1, t2⟩ := h5.tries
  refine ⟨(fineQ_iff o ps).2 h1, h2, fun x hx => ?_, by rw [pvs_len, area_sumQ ps _ (Nat.le_refl _), List.take_length]; exact h4, ?_, ?_, ?_⟩
  ·unfold pvs at hx
   obtain ⟨y, hy, rfl⟩ := List.mem_map.1 hx
   exact h3 y hy
  ·rw [hr]
   intro i hi e he
   rw [List.getElem?_eq_getElem hi] at he
   obtain rfl := Option.some.inj he
   refine ⟨fun j hj hh => ?_, (t1 i hi).2⟩
   rw [List.getElem?_eq_getElem (by omega)] at hh
   exact (t1 i hi).1 j hj (Option.some.inj hh)
  ·rw [hr]
   intro i j hij hj a b ha hb
   rw [List.getElem?_eq_getElem (by omega)] at ha
   rw [List.getElem?_eq_getElem hj] at hb
   obtain rfl := Option.some.inj ha
   obtain rfl := Option.some.inj hb
   exact t2 i j hij hj
  ·rw [hr]; exact h5.out
theorem chkB_plan {o : List (Int × Int)} {l : List PV} : chkB o l = true ↔ PlanQ o (l.map PV.par) := by rw [chkQ_of, chkQ_iff]
theorem PlanQ.one {o : List (Int × Int)} {ps : List Par} (h : PlanQ o ps) {x y : Par} (hx : x ∈ ps) (hy : y ∈ ps) (e : x.id = y.id) : x = y := by
 obtain ⟨i, hi, rfl⟩ := List.getElem_of_mem hx
 obtain ⟨j, hj, rfl⟩ := List.getElem_of_mem hy
 have hp := List.pairwise_iff_getElem.1 h.fine.1
 rcases Nat.lt_trichotomy i j with k | k | k
 ·have := hp i j hi hj k; omega
 ·subst k; rfl
 ·have := hp j i hj hi k; omega

end Go.Proofs.YtoabooljgojoiabGreat
