/- The contract of the document's own answer Meet: what two stretches have in common. -/
import Derived.Test.YtoiamjglklgcdaaGreatGeoR1
import Derived.Test.YtoiamjglklgcdaaGreatMeets3
namespace Go.Proofs.YtoiamjglklgcdaaGreat
open Go.RowKit

end Go.Proofs.YtoiamjglklgcdaaGreat
