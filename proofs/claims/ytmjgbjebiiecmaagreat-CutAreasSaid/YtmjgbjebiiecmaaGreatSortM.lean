/- Which parcels of two plans are other ones: plainly. -/
import Derived.Test.YtmjgbjebiiecmaaGreatRefPar
namespace Go.Proofs.YtmjgbjebiiecmaaGreat

/-- The first parcel of a number. -/
def firstQ (ps : List Par) (id : Int) : Option Par := ps.find? fun x => x.id == id
def idsQ (ps : List Par) : List Int := ps.map Par.id
/-- A number that one of two plans alone has, or both with other parcels. -/
def ChP (ps qs : List Par) (id : Int) : Prop := (id ∈ idsQ ps ∨ id ∈ idsQ qs) ∧ ¬ ∃ a, firstQ ps id = some a ∧ firstQ qs id = some a
theorem ChP.swap {ps qs : List Par} {id : Int} (h : ChP ps qs id) : ChP qs ps id := ⟨h.1.symm, fun ⟨a, h1, h2⟩ => h.2 ⟨a, h2, h1⟩⟩
theorem firstQ_some {ps : List Par} {id : Int} (h : id ∈ idsQ ps) : ∃ a, firstQ ps id = some a := by
  obtain ⟨x, hx, e⟩ := List.mem_map.1 h
  unfold firstQ
  cases hf : ps.find? fun x => x.id == id with
  | some a => exact ⟨a, rfl⟩
  | none => exact absurd (List.find?_eq_none.1 hf x hx) (by simp [e])
theorem firstQ_id {ps : List Par} {id : Int} {a : Par} (h : firstQ ps id = some a) : a.id = id ∧ a ∈ ps := by
  unfold firstQ at h
  exact ⟨by simpa using List.find?_some h, List.mem_of_find?_eq_some h⟩
end Go.Proofs.YtmjgbjebiiecmaaGreat

/- Insertion sort, plainly: a number on its way to its place. -/
namespace Go.Proofs.YtmjgbjebiiecmaaGreat

end Go.Proofs.YtmjgbjebiiecmaaGreat
