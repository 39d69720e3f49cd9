/- Nothing is sorted by a closure in this seat. -/
import Derived.Sort.Defs
import Derived.Test.YtfjfmieadedjoaaProg
namespace Go.Proofs.Ytfjfmieadedjoaa
theorem noSortHere : True := trivial
end Go.Proofs.Ytfjfmieadedjoaa
