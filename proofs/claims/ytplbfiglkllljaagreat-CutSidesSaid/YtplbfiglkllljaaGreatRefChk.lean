/- The document's Check of a plan: its walk. -/
import Derived.Test.YtplbfiglkllljaaGreatRefChkP
namespace Go.Proofs.YtplbfiglkllljaaGreat
open Go.RowKit

end Go.Proofs.YtplbfiglkllljaaGreat
