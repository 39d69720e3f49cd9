/- The contracts of the document's own answers: a number in two words, and the product, bit by bit. -/
import Derived.Test.YtfjfmieadedjoaaRefB
import Derived.Deep.DeepCutAuto
import Derived.Deep.LoopGhost
namespace Go.Proofs.Ytfjfmieadedjoaa
open Go.RowKit

section
variable {w W W' : World} {g4 g5 g6 : Nat} {x s : Int}
end

end Go.Proofs.Ytfjfmieadedjoaa
