/- The contract of the document's own answer Meet: what two stretches have in common. -/
import Derived.Test.YtfjfmieadedjoaaGeoR1
import Derived.Test.YtfjfmieadedjoaaMeets3
namespace Go.Proofs.Ytfjfmieadedjoaa
open Go.RowKit

end Go.Proofs.Ytfjfmieadedjoaa
