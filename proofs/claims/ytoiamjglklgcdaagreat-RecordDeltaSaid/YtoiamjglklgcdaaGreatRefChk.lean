/- The document's Check of a plan: its walk. -/
import Derived.Test.YtoiamjglklgcdaaGreatRefFine
namespace Go.Proofs.YtoiamjglklgcdaaGreat
open Go.RowKit

end Go.Proofs.YtoiamjglklgcdaaGreat
