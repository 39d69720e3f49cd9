/- The document's side of layer frame: Num, PutNum, Seal. -/
import Derived.Test.YtdnfijhclikkfabDoorFOpn
import Derived.Test.YtdnfijhclikkfabDoorFSumR
namespace Go.Proofs.YtdnfijhclikkfabDoor
open Go.RowKit Go.Lib

end Go.Proofs.YtdnfijhclikkfabDoor
