/- Nothing is sorted by a closure in this seat. -/
import Derived.Sort.Defs
import Derived.Test.YtfjfmieadedjoaaGreatProg
namespace Go.Proofs.YtfjfmieadedjoaaGreat
theorem noSortHere : True := trivial
end Go.Proofs.YtfjfmieadedjoaaGreat
