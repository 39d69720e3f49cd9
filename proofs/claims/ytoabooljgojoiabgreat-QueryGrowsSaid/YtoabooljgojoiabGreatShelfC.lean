/- Nothing: slices.Compact lies with the other contracts here. -/
import Derived.Test.YtoabooljgojoiabGreatProg
namespace Go.Proofs.YtoabooljgojoiabGreat
theorem shelfC_none : True := trivial
end Go.Proofs.YtoabooljgojoiabGreat
