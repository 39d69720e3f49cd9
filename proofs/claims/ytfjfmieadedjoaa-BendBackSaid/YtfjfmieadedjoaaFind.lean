/- The program's Find: the parcel of a number. -/
import Derived.Test.YtfjfmieadedjoaaLeft
namespace Go.Proofs.Ytfjfmieadedjoaa
open Go.RowKit

end Go.Proofs.Ytfjfmieadedjoaa
