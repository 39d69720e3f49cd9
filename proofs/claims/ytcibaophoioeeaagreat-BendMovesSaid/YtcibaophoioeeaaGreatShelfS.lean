/- Nothing of the sorting of parcels is called by this program: this text only names what the others' imports ask for. -/
import Derived.Shelf.SlSortCmp.WholeK
import Derived.Test.YtcibaophoioeeaaGreatProg
namespace Go.Proofs.YtcibaophoioeeaaGreat
theorem no_sorting : True := trivial
end Go.Proofs.YtcibaophoioeeaaGreat
