/- The walk of PlanChecks. -/
import Derived.Test.YtjlnjjmomohpaaaGreatPlanB
import Derived.Test.YtjlnjjmomohpaaaGreatRefChk
namespace Go.Proofs.YtjlnjjmomohpaaaGreat
open Go.RowKit

section
variable {l l' : List PV}
theorem par_at (h : l'.map PV.par = l.map PV.par) {k : Nat} {x : PV} (hx : l[k]? = some x) : ∃ x', l'[k]? = some x' ∧ x'.par = x.par := by
 have := congrArg (fun q => q[k]?) h
 simp only [List.getElem?_map, hx, Option.map_some] at this
 cases h' : l'[k]? with
 |none => rw [h'] at this; cases this
 |some x' => rw [h'] at this; exact ⟨x', rfl, Option.some.inj this⟩
theorem par_none (h : l'.map PV.par = l.map PV.par) {k : Nat} (hx : l[k]? = none) : l'[k]? = none := by
 have := congrArg (fun q => q[k]?) h
 simp only [List.getElem?_map, hx, Option.map_none] at this
 cases h' : l'[k]? with
 |none => rfl
 |some x' => rw [h'] at this; cases this
theorem par_len (h : l'.map PV.par = l.map PV.par) : l'.length = l.length := by have := congrArg List.length h; rwa [List.length_map, List.length_map] at this
theorem cornN_par (o : List (Int × Int)) (h : l'.map PV.par = l.map PV.par) : ∀ k, cornN o l' k = cornN o l k
 |0 => rfl
 |k + 1 => by
  cases hx : l[k]? with
  |none => rw [cornN, cornN, hx, par_none h hx, cornN_par o h k]
  |some x =>
   obtain ⟨x', hx', e⟩ := par_at h hx
   rw [cornN_succ hx, cornN_succ hx', e, cornN_par o h k]
theorem lastI_par (h : l'.map PV.par = l.map PV.par) : ∀ k, lastI l' k = lastI l k
 |0 => rfl
 |k + 1 => by
  cases hx : l[k]? with
  |none => rw [lastI, lastI, hx, par_none h hx]
  |some x =>
   obtain ⟨x', hx', e⟩ := par_at h hx
   rw [lastI_succ hx, lastI_succ hx', e]
theorem areaS_par (h : l'.map PV.par = l.map PV.par) : ∀ k, areaS l' k = areaS l k
 |0 => rfl
 |k + 1 => by
  cases hx : l[k]? with
  |none => rw [areaS, areaS, hx, par_none h hx, areaS_par h k]
  |some x =>
   obtain ⟨x', hx', e⟩ := par_at h hx
   rw [areaS_succ hx, areaS_succ hx', e, areaS_par h k]
theorem rings_par (h : l'.map PV.par = l.map PV.par) : rings l' = rings l := by
 have := congrArg (List.map Par.ring) h
 rwa [List.map_map, List.map_map] at this
theorem chk_par1 {o : List (Int × Int)} (h : l'.map PV.par = l.map PV.par) (hc : CheckP o l) : CheckP o l' := by
 obtain ⟨h1, h2, h3, h4, h5, h6, h7⟩ := hc
 have hr := rings_par h
 have hl := par_len h
 refine ⟨⟨fun k hk x hx => ?_, by rw [hl]; exact h1.2.1, by rw [hl]; exact h1.2.2.1, by rw [hl, cornN_par o h]; exact h1.2.2.2⟩, h2, fun x hx => ?_, by rw [hl, areaS_par h]; exact h4, by rw [hr]; exact h5, by rw [hr]; exact h6, by rw [hr]; exact h7⟩
 ·obtain ⟨y, hy, e⟩ := par_at h.symm hx
  obtain ⟨a1, a2, a3, a4⟩ := h1.1 k (by omega) y hy
  rw [← e, lastI_par h, cornN_par o h]
  exact ⟨a1, a2, a3, a4⟩
 ·have hm : x.par ∈ l.map PV.par := by rw [← h]; exact List.mem_map.2 ⟨x, hx, rfl⟩
  obtain ⟨y, hy, e⟩ := List.mem_map.1 hm
  rw [← e]; exact h3 y hy
end
end Go.Proofs.YtjlnjjmomohpaaaGreat

namespace Go.Proofs.YtjlnjjmomohpaaaGreat

end Go.Proofs.YtjlnjjmomohpaaaGreat

namespace Go.Proofs.YtjlnjjmomohpaaaGreat
open Go.RowKit

end Go.Proofs.YtjlnjjmomohpaaaGreat
