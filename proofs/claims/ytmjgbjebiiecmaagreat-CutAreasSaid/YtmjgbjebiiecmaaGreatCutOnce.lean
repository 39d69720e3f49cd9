/- The walk of CutOnce. -/
import Derived.Test.YtmjgbjebiiecmaaGreatCutL
namespace Go.Proofs.YtmjgbjebiiecmaaGreat
open Go.RowKit

/-- What comes of a cut that is none of the errors, as it lies in memory. -/
theorem split_plan {w w' : World} {o : List (Int × Int)} {ps : List Par} {id : Int} {path : List (Int × Int)} {fresh : Int} {A1 Ap1 : Option Addr} {c1 cp1 : Nat} {l' : List PV} (hz : sptE o ps id path fresh = 0) (hml : l'.map PV.par = sptL ps id path fresh) (r1 : Row w (.slice A1 (putE o path).length c1) (putE o path) w') (r2 : RowI w 40 3 encV (.slice Ap1 l'.length cp1) l' w') (r3 : OwnRs w l' w') : PlanAt w' (putE o path) A1 c1 l' Ap1 cp1 ∧ l'.length ≤ 64 ∧ (putE o path).length ≤ 128 ∧ ∀ x ∈ l', x.par.own.size ≤ maxLen := by
  have hQ := (chkQ_iff _ _).1 (sp_zero hz).2.2.2
  have ho := hQ.outP.2.2
  have hm : ∀ x ∈ l', x.par ∈ sptL ps id path fresh := fun x hx => by rw [← hml]; exact List.mem_map_of_mem hx
  refine ⟨planAt_of r1 r2 r3 (by omega) (fun x hx => by have := (hQ.ringP (hm x hx)).2.2; omega), ?_, ho, fun x hx => ?_⟩
  · have h1 := hQ.fine.2.2.2.1
    have h2 := congrArg List.length hml
    rw [List.length_map] at h2
    omega
  · have := (hQ.fine.2.1 _ (hm x hx)).2.2
    unfold maxLen; omega
end Go.Proofs.YtmjgbjebiiecmaaGreat
