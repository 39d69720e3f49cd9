/- The walk of PlanChecks. -/
import Derived.Test.YtoiamjglklgcdaaGreatPlanB
import Derived.Test.YtoiamjglklgcdaaGreatRefChk
namespace Go.Proofs.YtoiamjglklgcdaaGreat
open Go.RowKit

section
variable {l l' : List PV}
end
end Go.Proofs.YtoiamjglklgcdaaGreat

namespace Go.Proofs.YtoiamjglklgcdaaGreat

end Go.Proofs.YtoiamjglklgcdaaGreat

namespace Go.Proofs.YtoiamjglklgcdaaGreat
open Go.RowKit

end Go.Proofs.YtoiamjglklgcdaaGreat
