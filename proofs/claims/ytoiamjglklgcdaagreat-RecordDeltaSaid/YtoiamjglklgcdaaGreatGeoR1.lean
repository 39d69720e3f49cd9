/- The contracts of the document's own answers on points: Good, Turn, between, On. -/
import Derived.Test.YtoiamjglklgcdaaGreatGeo3
namespace Go.Proofs.YtoiamjglklgcdaaGreat
open Go.RowKit

end Go.Proofs.YtoiamjglklgcdaaGreat
