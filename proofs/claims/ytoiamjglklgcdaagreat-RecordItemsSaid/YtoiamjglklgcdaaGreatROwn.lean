/- Layer record, the law's own copy of items. -/
import Derived.Test.YtoiamjglklgcdaaGreatRDoc2
namespace Go.Proofs.YtoiamjglklgcdaaGreat
open Go.RowKit Go.Lib

end Go.Proofs.YtoiamjglklgcdaaGreat
