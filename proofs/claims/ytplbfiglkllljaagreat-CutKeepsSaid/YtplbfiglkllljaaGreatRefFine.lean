/- The document's own answers on plans, first part: At, In, Corner, SameParcel. -/
import Derived.Test.YtplbfiglkllljaaGreatRefPar
import Derived.Test.YtplbfiglkllljaaGreatRingP
namespace Go.Proofs.YtplbfiglkllljaaGreat
open Go.RowKit

section
variable {w W : World} {g : Nat} {t : TypeId} {x0 x1 x2 : Value} {L2 : List (Nat × Array Value × TypeId)}
theorem Hold.q3 (h : Hold w L2 W) (hm : (g, #[x0, x1, x2], t) ∈ L2) : W.cell? ⟨g, 0, none⟩ = some x0 ∧ W.cell? ⟨g, 1, none⟩ = some x1 ∧ W.cell? ⟨g, 2, none⟩ = some x2 := ⟨h.cell hm 0, h.cell hm 1, h.cell hm 2⟩
end
theorem Prs.cells {w W : World} {A : Option Addr} {l : List PV} {ad : Addr} {k : Nat} {x : PV} (hA : A = some ad) (hr : Prs w A l) (hx : l[k]? = some x) (hB : Below w.heap.size w W) : W.cell? (ad.add (k * 3)) = some (.int .i64 x.par.id) ∧ W.cell? ⟨(ad.add (k * 3)).block, (ad.add (k * 3)).off + 1, none⟩ = some (.slice x.A x.par.ring.length x.cap) ∧ W.cell? ⟨(ad.add (k * 3)).block, (ad.add (k * 3)).off + 2, none⟩ = some (.string x.par.own) := by
  have hlt : k < l.length := by
    by_cases h : k < l.length
    · exact h
    · rw [List.getElem?_eq_none (by omega)] at hx; cases hx
  obtain rfl : l[k] = x := by rw [List.getElem?_eq_getElem hlt] at hx; exact Option.some.inj hx
  obtain ⟨ad', e, -, h0, h1, h2⟩ := (hr.on hB).at hlt
  obtain rfl := Option.some.inj (hA.symm.trans e)
  exact ⟨h0, h1, h2⟩
end Go.Proofs.YtplbfiglkllljaaGreat

/- The document's own answers on plans, second part: fine. -/
namespace Go.Proofs.YtplbfiglkllljaaGreat
open Go.RowKit

/-- How many corners the outer ring and the first parcels have; the number of the parcel ahead. -/
def cornN (o : List (Int × Int)) (l : List PV) : Nat → Nat
  | 0 => o.length
  | k + 1 => cornN o l k + (match l[k]? with | some x => x.par.ring.length | none => 0)
def lastI (l : List PV) : Nat → Int
  | 0 => 0
  | k + 1 => match l[k]? with | some x => x.par.id | none => 0
/-- The k-th parcel is fine behind those ahead of it. -/
def FineAt (o : List (Int × Int)) (l : List PV) (k : Nat) : Prop := ∀ x, l[k]? = some x → idB x.par.id = true ∧ lastI l k < x.par.id ∧ OwnOk x.par.own ∧ cornN o l (k + 1) ≤ 1024
def FineP (o : List (Int × Int)) (l : List PV) : Prop := (∀ k, k < l.length → FineAt o l k) ∧ 1 ≤ l.length ∧ l.length ≤ 64 ∧ cornN o l l.length ≤ 1024
theorem cornN_succ {o : List (Int × Int)} {l : List PV} {k : Nat} {x : PV} (h : l[k]? = some x) : cornN o l (k + 1) = cornN o l k + x.par.ring.length := by rw [cornN, h]
theorem lastI_succ {l : List PV} {k : Nat} {x : PV} (h : l[k]? = some x) : lastI l (k + 1) = x.par.id := by rw [lastI, h]

end Go.Proofs.YtplbfiglkllljaaGreat
