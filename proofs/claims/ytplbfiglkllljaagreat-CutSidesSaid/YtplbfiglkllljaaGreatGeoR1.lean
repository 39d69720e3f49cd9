/- The contracts of the document's own answers on points: Good, Turn, between, On. -/
import Derived.Test.YtplbfiglkllljaaGreatGeo3
namespace Go.Proofs.YtplbfiglkllljaaGreat
open Go.RowKit

end Go.Proofs.YtplbfiglkllljaaGreat
