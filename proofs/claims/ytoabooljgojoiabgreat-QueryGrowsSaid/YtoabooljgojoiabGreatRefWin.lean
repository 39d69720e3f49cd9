/- The document's own answers on windows: WindowOK, Has, Cuts, Meets. -/
import Derived.Test.YtoabooljgojoiabGreatWinB
import Derived.Test.YtoabooljgojoiabGreatPlane
import Derived.Test.YtoabooljgojoiabGreatRefSide
import Derived.Test.YtoabooljgojoiabGreatRefCheck
namespace Go.Proofs.YtoabooljgojoiabGreat
open Go.RowKit

theorem hasB_iff {L H p : Int × Int} : hasB L H p = true ↔ InW L H p := by
 unfold hasB InW
 simp only [Bool.and_eq_true, decide_eq_true_eq, and_assoc]
theorem hasB_not {L H p : Int × Int} (h : hasB L H p = false) : ¬ InW L H p := fun e => by rw [hasB_iff.2 e] at h; cases h
noncomputable def cutV (L H a b : Int × Int) : Bool := @decide (Cut L H a b) (Classical.propDecidable _)
noncomputable def metV (L H : Int × Int) (r : List (Int × Int)) : Bool := @decide (Met L H r) (Classical.propDecidable _)
theorem cutV_iff {L H a b : Int × Int} : cutV L H a b = true ↔ Cut L H a b := by unfold cutV; exact @decide_eq_true_iff _ (Classical.propDecidable _)
theorem cutV_not {L H a b : Int × Int} : cutV L H a b = false ↔ ¬ Cut L H a b := by rw [← cutV_iff, Bool.not_eq_true]
theorem metV_iff {L H : Int × Int} {r : List (Int × Int)} : metV L H r = true ↔ Met L H r := by unfold metV; exact @decide_eq_true_iff _ (Classical.propDecidable _)
section
variable {w W : World} {L H a b : Int × Int}
end


end Go.Proofs.YtoabooljgojoiabGreat
