/- The program's Find: the parcel of a number. -/
import Derived.Test.YtfjfmieadedjoaaGreatLeft
namespace Go.Proofs.YtfjfmieadedjoaaGreat
open Go.RowKit

end Go.Proofs.YtfjfmieadedjoaaGreat
