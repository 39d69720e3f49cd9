/- The contracts of the document's own answers: the sign, and which of two is greater. -/
import Derived.Test.YtplbfiglkllljaaGreatRefB
namespace Go.Proofs.YtplbfiglkllljaaGreat
open Go.RowKit

end Go.Proofs.YtplbfiglkllljaaGreat
