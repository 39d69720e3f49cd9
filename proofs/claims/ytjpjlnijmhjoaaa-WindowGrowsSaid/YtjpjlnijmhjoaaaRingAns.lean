/- What layer ring's laws share: the given answer. -/
import Derived.Test.YtjpjlnijmhjoaaaRingC
namespace Go.Proofs.Ytjpjlnijmhjoaaa
open Go.RowKit

end Go.Proofs.Ytjpjlnijmhjoaaa
