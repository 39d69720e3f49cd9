/- How a slice of 32-bit numbers comes in. -/
import Derived.Test.YtdnfijhclikkfabDoorFFrame
set_option maxRecDepth 100000
namespace Go.Proofs.YtdnfijhclikkfabDoor
open Go.Joins Go.ChangeShapes Go.WideShapes Go.ChangeAt Go.RowKit

/-- A slice of 32-bit numbers. -/
def U32sAt (w : World) (A : Option Addr) (xs : List Nat) : Prop := 0 < xs.length → ∃ g o, A = some ⟨g, o, none⟩ ∧ ∀ i, i < xs.length → w.cell? ⟨g, o + i, none⟩ = some (.int .u32 (xs.getD i 0 : Nat))
section
variable {H : Type} {enc : TypeId × Value → H}
theorem open_u32s {w : World} {r : Reach} {b0 : Nat} {v : Value} {d : DataW H} {p : List MemPlace} (hv : Value.okWide Tryd.prog w r b0 30 v) (h : DataW.Trod enc Tryd.prog w 0 (fun _ => true) true 30 v d p) :
    ∃ (A : Option Addr) (xs : List Nat) (cap : Nat), v = .slice A xs.length cap ∧ U32sAt w A xs ∧ ∀ x ∈ xs, x < 4294967296 := by
  obtain ⟨a0, l0, c0, rfl⟩ := okWide_slice Tryd.underlying30 hv
  obtain ⟨fuel, hf⟩ := h
  rcases Go.Deep.open_slice1 Tryd.underlying30 (by kernel_rfl) hf with ⟨h1, h2⟩ | ⟨a, len, cap, m, n, V, D, Pl, h1, hba, hlc, hcm, hm, hx, hcell⟩
  · simp only [Value.cells, List.cons.injEq, Value.slice.injEq, and_true] at h1
    obtain ⟨rfl, rfl, rfl⟩ := h1
    exact ⟨none, [], 0, rfl, fun hp => absurd hp (by simp), fun x hx => by cases hx⟩
  · simp only [Value.cells, List.cons.injEq, Value.slice.injEq, and_true] at h1
    obtain ⟨rfl, rfl, rfl⟩ := h1
    simp only [if_true] at hm
    subst hm
    have each : ∀ i, i < l0 → ∃ q : Nat, w.cell? (a.add i) = some (.int .u32 (q : Nat)) ∧ q < 4294967296 := fun i hi => by
      obtain ⟨hc, ht⟩ := hcell i (by omega)
      obtain ⟨x, e0, -, wx⟩ := DataW.trod_int Tryd.underlying31 ht
      have e1 : V i = .int .u32 x := by simpa using e0
      have hb := bounds_u32 wx
      refine ⟨x.toNat, ?_, by omega⟩
      rw [hc, e1]
      congr 2
      omega
    obtain ⟨q, hq⟩ := Go.Deep.choose_lt each
    refine ⟨some a, (List.range l0).map q, m, by simp, fun hp => ?_, fun x hx => ?_⟩
    · simp only [List.length_map, List.length_range] at hp ⊢
      obtain ⟨b, o, sp⟩ := a
      have h0 := (hq 0 hp).1
      have hsp : sp = none := by
        simp only [Addr.add] at h0
        exact cell_spot h0
      subst hsp
      refine ⟨b, o, rfl, fun i hi => ?_⟩
      have hi' := (hq i hi).1
      rw [show (⟨b, o, none⟩ : Addr).add i = ⟨b, o + i, none⟩ by simp [Addr.add]] at hi'
      rw [hi']
      simp [List.getD_eq_getElem?_getD, hi]
    · obtain ⟨i, hi, rfl⟩ := List.mem_map.1 hx
      exact (hq i (List.mem_range.1 hi)).2
end
end Go.Proofs.YtdnfijhclikkfabDoor
