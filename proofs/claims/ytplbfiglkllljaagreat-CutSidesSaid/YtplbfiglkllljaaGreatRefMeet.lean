/- The contract of the document's own answer Meet: what two stretches have in common. -/
import Derived.Test.YtplbfiglkllljaaGreatGeoR1
import Derived.Test.YtplbfiglkllljaaGreatMeets3
namespace Go.Proofs.YtplbfiglkllljaaGreat
open Go.RowKit

end Go.Proofs.YtplbfiglkllljaaGreat
