/- The document's Check of a plan: its walk. -/
import Derived.Test.YtfjfmieadedjoaaRefFine
namespace Go.Proofs.Ytfjfmieadedjoaa
open Go.RowKit

end Go.Proofs.Ytfjfmieadedjoaa
