/- The program's Find: the parcel of a number. -/
import Derived.Test.YtcibaophoioeeaaGreatLeft
namespace Go.Proofs.YtcibaophoioeeaaGreat
open Go.RowKit

end Go.Proofs.YtcibaophoioeeaaGreat
