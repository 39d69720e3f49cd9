/- What the laws on queries open: an edge, a window. -/
import Derived.Test.YtoabooljgojoiaaGreatOpenPlan
import Derived.Test.YtoabooljgojoiaaGreatMapE
import Derived.Test.YtoabooljgojoiaaGreatOpenRing
/- How an edge comes in. -/
set_option maxRecDepth 100000
namespace Go.Proofs.YtoabooljgojoiaaGreat
open Go.Joins Go.ChangeShapes Go.WideShapes Go.ChangeAt Go.RowKit
section
variable {H : Type} {enc : TypeId × Value → H} {w : World} {base : Nat} {spare : Nat → Bool} {held : Bool}
end
end Go.Proofs.YtoabooljgojoiaaGreat

set_option maxRecDepth 100000
namespace Go.Proofs.YtoabooljgojoiaaGreat
open Go.Joins Go.ChangeShapes Go.WideShapes Go.ChangeAt Go.RowKit

section
variable {H : Type} {enc : TypeId × Value → H} {w : World} {base : Nat} {spare : Nat → Bool} {held : Bool}
end
end Go.Proofs.YtoabooljgojoiaaGreat
