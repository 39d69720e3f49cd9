/- Which parcels of two plans are other ones: plainly. -/
import Derived.Test.YtoabooljgojoiabGreatRefPar
import Derived.Test.YtoabooljgojoiabGreatRefSide
import Derived.Test.YtoabooljgojoiabGreatRefFine
import Derived.Test.YtoabooljgojoiabGreatRingP
namespace Go.Proofs.YtoabooljgojoiabGreat

def firstQ (ps : List Par) (id : Int) : Option Par := ps.find? fun x => x.id == id
def idsQ (ps : List Par) : List Int := ps.map Par.id
def ChP (ps qs : List Par) (id : Int) : Prop := (id ∈ idsQ ps ∨ id ∈ idsQ qs) ∧ ¬ ∃ a, firstQ ps id = some a ∧ firstQ qs id = some a
theorem ChP.swap {ps qs : List Par} {id : Int} (h : ChP ps qs id) : ChP qs ps id := ⟨h.1.symm, fun ⟨a, h1, h2⟩ => h.2 ⟨a, h2, h1⟩⟩
end Go.Proofs.YtoabooljgojoiabGreat

namespace Go.Proofs.YtoabooljgojoiabGreat

end Go.Proofs.YtoabooljgojoiabGreat

namespace Go.Proofs.YtoabooljgojoiabGreat
open Go.RowKit

end Go.Proofs.YtoabooljgojoiabGreat

namespace Go.Proofs.YtoabooljgojoiabGreat
open Go.RowKit

end Go.Proofs.YtoabooljgojoiabGreat
