/- The walk of PlanChecks. -/
import Derived.Test.YtfjfmieadedjoaaPlanB
import Derived.Test.YtfjfmieadedjoaaRefChk
namespace Go.Proofs.Ytfjfmieadedjoaa
open Go.RowKit

section
variable {l l' : List PV}
theorem par_at (h : l'.map PV.par = l.map PV.par) {k : Nat} {x : PV} (hx : l[k]? = some x) : ∃ x', l'[k]? = some x' ∧ x'.par = x.par := by
 have := congrArg (fun q => q[k]?) h
 simp only [List.getElem?_map, hx, Option.map_some] at this
 cases h' : l'[k]? with
 |none => rw [h'] at this; cases this
 |some x' => rw [h'] at this; exact ⟨x', rfl, Option.some.inj this⟩
theorem par_none (h : l'.map PV.par = l.map PV.par) {k : Nat} (hx : l[k]? = none) : l'[k]? = none := by
 have := congrArg (fun q => q[k]?) h
 simp only [List.getElem?_map, hx, Option.map_none] at this
 cases h' : l'[k]? with
 |none => rfl
 |some x' => rw [h'] at this; cases this
theorem par_len (h : l'.map PV.par = l.map PV.par) : l'.length = l.length := by have := congrArg List.length h; rwa [List.length_map, List.length_map] at this
theorem cornN_par (o : List (Int × Int)) (h : l'.map PV.par = l.map PV.par) : ∀ k, cornN o l' k = cornN o l k
 |0 => rfl
 |k + 1 => by
  cases hx : l[k]? with
  |none => rw [cornN, cornN, hx, par_none h hx, cornN_par o h k]
  |some x =>
   obtain ⟨x', hx', e⟩ := par_at h hx
   rw [cornN_succ hx, cornN_succ hx', e, cornN_par o h k]
theorem lastI_par (h : l'.map PV.par = l.map PV.par) : ∀ k, lastI l' k = lastI l k
 |0 => rfl
 |k + 1 => by
  cases hx : l[k]? with
  |none => rw [lastI, lastI, hx, par_none h hx]
  |some x =>
   obtain ⟨x', hx', e⟩ := par_at h hx
   rw [lastI_succ hx, lastI_succ hx', e]
theorem areaS_par (h : l'.map PV.par = l.map PV.par) : ∀ k, areaS l' k = areaS l k
 |0 => rfl
 |k + 1 => by
  cases hx : l[k]? with
  |none => rw [areaS, areaS, hx, par_none h hx, areaS_par h k]
  |some x =>
   obtain ⟨x', hx', e⟩ := par_at h hx
   rw [areaS_succ hx, areaS_succ hx', e, areaS_par h k]
theorem rings_par (h : l'.map PV.par = l.map PV.par) : rings l' = rings l := by
 have := congrArg (List.map Par.ring) h
 rwa [List.map_map, List.map_map] at this
theorem chk_par1 {o : List (Int × Int)} (h : l'.map PV.par = l.map PV.par) (hc : CheckP o l) : CheckP o l' := by
 obtain ⟨h1, h2, h3, h4, h5, h6, h7⟩ := hc
 have hr := rings_par h
 have hl := par_len h
 refine ⟨⟨fun k hk x hx => ?_, by rw [hl]; exact h1.2.1, by rw [hl]; exact h1.2.2.1, by rw [hl, cornN_par o h]; exact h1.2.2.2⟩, h2, fun x hx => ?_, by rw [hl, areaS_par h]; exact h4, by rw [hr]; exact h5, by rw [hr]; exact h6, by rw [hr]; exact h7⟩
 ·obtain ⟨y, hy, e⟩ := par_at h.symm hx
  obtain ⟨a1, a2, a3, a4⟩ := h1.1 k (by omega) y hy
  rw [← e, lastI_par h, cornN_par o h]
  exact ⟨a1, a2, a3, a4⟩
 ·have hm : x.par ∈ l.map PV.par := by rw [← h]; exact List.mem_map.2 ⟨x, hx, rfl⟩
  obtain ⟨y, hy, e⟩ := List.mem_map.1 hm
  rw [← e]; exact h3 y hy
theorem chkB_par (o : List (Int × Int)) (h : l'.map PV.par = l.map PV.par) : chkB o l' = chkB o l := by
 rw [Bool.eq_iff_iff, chkB_iff, chkB_iff]
 exact ⟨chk_par1 h.symm, chk_par1 h⟩
theorem own_par (h : l'.map PV.par = l.map PV.par) (ho : ∀ x ∈ l, x.par.own.size ≤ maxLen) : ∀ x ∈ l', x.par.own.size ≤ maxLen := fun x hx => by
 have hm : x.par ∈ l.map PV.par := by rw [← h]; exact List.mem_map.2 ⟨x, hx, rfl⟩
 obtain ⟨y, hy, e⟩ := List.mem_map.1 hm
 rw [← e]; exact ho y hy
end
noncomputable def ckR (o : List (Int × Int)) (l : List PV) : Int := if chkB o l then 0 else 2
theorem ckR_true {o : List (Int × Int)} {l : List PV} (h : chkB o l = true) : ckR o l = 0 := by unfold ckR; rw [if_pos h]
theorem ckR_false {o : List (Int × Int)} {l : List PV} (h : chkB o l = false) : ckR o l = 2 := by unfold ckR; rw [h]; rfl
theorem ckE_eq (o : List (Int × Int)) (Ao : Option Addr) (co : Nat) {l l' : List PV} (h : l'.map PV.par = l.map PV.par) : ckE o Ao co l' = ckR o l := by unfold ckE ckR; rw [check_eq, chkB_par o h]
theorem owned_check {w : World} {o : List (Int × Int)} {A1 : Option Addr} {c1 : Nat} {l l' : List PV} {Ap1 : Option Addr} {cp1 : Nat} (hl : l.length ≤ 1000000) (ho : o.length ≤ 8796093022208) (hown : ∀ x ∈ l, x.par.own.size ≤ maxLen) (hm : l'.map PV.par = l.map PV.par) (h : PlanAt w o A1 c1 l' Ap1 cp1) :
  Calls Try.prog 23 #[.agg #[.slice A1 o.length c1, .slice Ap1 l.length cp1]] w fun e' w' => e' = .returned (.int .i64 (ckR o l)) ∧ Below w.heap.size w w' := by
 have := PCheck_any o A1 c1 l' Ap1 cp1 (by rw [par_len hm]; exact hl) ho h.caps.1 h.caps.2 (own_par hm hown) w h.prs h.out
 rw [ckE_eq o A1 c1 hm, par_len hm] at this
 exact this
end Go.Proofs.Ytfjfmieadedjoaa

namespace Go.Proofs.Ytfjfmieadedjoaa

theorem corner_any {o : List (Int × Int)} {l : List PV} (h : CheckP o l) (p : Int × Int) : (p ∈ o ∨ ∃ x ∈ l, p ∈ x.par.ring) ↔ ∃ x ∈ l, p ∈ x.par.ring := by
 refine ⟨fun h1 => ?_, .inr⟩
 rcases h1 with h1 | h1
 ·obtain ⟨i, hi, rfl⟩ := List.getElem_of_mem h1
  have he : (nx o i, nx o (i + 1)) ∈ edg o := mem_edg.2 ⟨i, hi, rfl⟩
  obtain ⟨r, hr, h2⟩ := mem_edgs.1 (h.2.2.2.2.2.2 _ he)
  obtain ⟨x, hx, rfl⟩ := List.mem_map.1 hr
  obtain ⟨j, hj, h3⟩ := mem_edg.1 h2
  refine ⟨x, hx, ?_⟩
  have h4 := (Prod.ext_iff.1 h3).1
  simp only at h4
  rw [nx_lt hi, nx_lt hj] at h4
  rw [h4]; exact List.getElem_mem hj
 ·exact h1
end Go.Proofs.Ytfjfmieadedjoaa

namespace Go.Proofs.Ytfjfmieadedjoaa
open Go.RowKit

theorem check_any {w : World} {o : List (Int × Int)} {Ao : Option Addr} {co : Nat} {l : List PV} {Ap : Option Addr} {cp : Nat} (hl : l.length ≤ 1000000) (ho : o.length ≤ 8796093022208) (hown : ∀ x ∈ l, x.par.own.size ≤ maxLen) (h : PlanAt w o Ao co l Ap cp) :
  Calls Try.prog 23 #[.agg #[.slice Ao o.length co, .slice Ap l.length cp]] w fun e' w' => e' = .returned (.int .i64 (ckR o l)) ∧ Below w.heap.size w w' := owned_check hl ho hown rfl h
end Go.Proofs.Ytfjfmieadedjoaa
