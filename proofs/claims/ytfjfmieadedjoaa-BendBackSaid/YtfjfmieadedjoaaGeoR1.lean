/- The contracts of the document's own answers on points: Good, Turn, between, On. -/
import Derived.Test.YtfjfmieadedjoaaGeo3
namespace Go.Proofs.Ytfjfmieadedjoaa
open Go.RowKit

end Go.Proofs.Ytfjfmieadedjoaa
