/- How a slice of bools comes in. -/
import Derived.Test.YtjhnmedcmikdpaaDoorJOpenB
import Derived.Test.YtjhnmedcmikdpaaDoorJStrL
set_option maxRecDepth 100000
namespace Go.Proofs.YtjhnmedcmikdpaaDoor
open Go.Joins Go.ChangeShapes Go.WideShapes Go.ChangeAt Go.RowKit

theorem cell_in {w : World} {a : Addr} {v : Value} (h : w.cell? a = some v) : a.block < w.heap.size := by
  apply Decidable.byContradiction
  intro hn
  unfold World.cell? at h
  rw [Array.getElem?_eq_none (by omega)] at h
  simp at h
section
variable {H : Type} {enc : TypeId × Value → H}
theorem open_bools {w : World} {r : Reach} {b0 : Nat} {v : Value} {d : DataW H} {p : List MemPlace} (hv : Value.okWide Tryd.prog w r b0 39 v) (h : DataW.Trod enc Tryd.prog w 0 (fun _ => true) true 39 v d p) :
    ∃ (A : Option Addr) (hs : List Bool) (cap : Nat), v = .slice A hs.length cap ∧ BoolsAt w A hs := by
  obtain ⟨a0, l0, c0, rfl⟩ := okWide_slice Tryd.underlying39 hv
  obtain ⟨fuel, hf⟩ := h
  rcases Go.Deep.open_slice1 Tryd.underlying39 (by kernel_rfl) hf with ⟨h1, h2⟩ | ⟨a, len, cap, m, n, V, D, Pl, h1, hba, hlc, hcm, hm, hx, hcell⟩
  · simp only [Value.cells, List.cons.injEq, Value.slice.injEq, and_true] at h1
    obtain ⟨rfl, rfl, rfl⟩ := h1
    exact ⟨none, [], 0, rfl, fun i b hi => by cases hi⟩
  · simp only [Value.cells, List.cons.injEq, Value.slice.injEq, and_true] at h1
    obtain ⟨rfl, rfl, rfl⟩ := h1
    simp only [if_true] at hm
    subst hm
    have each : ∀ i, i < l0 → ∃ q : Bool, w.cell? (a.add i) = some (.bool q) := fun i hi => by
      obtain ⟨hc, ht⟩ := hcell i (by omega)
      obtain ⟨x, e0, -⟩ := DataW.trod_bool Tryd.underlying4 ht
      have e1 : V i = .bool x := by simpa using e0
      exact ⟨x, by rw [hc, e1]⟩
    obtain ⟨q, hq⟩ := Go.Deep.choose_lt each
    refine ⟨some a, (List.range l0).map q, m, by simp, fun i b hi => ?_⟩
    have hil : i < l0 := by
      have := (List.getElem?_eq_some_iff.1 hi).1
      simpa using this
    obtain ⟨bl, o, sp⟩ := a
    have hi' := hq i hil
    have hsp : sp = none := by
      have h0 := hq 0 (by omega)
      simp only [Addr.add] at h0
      exact cell_spot h0
    subst hsp
    rw [show (⟨bl, o, none⟩ : Addr).add i = ⟨bl, o + i, none⟩ by simp [Addr.add]] at hi'
    refine ⟨bl, o, rfl, cell_in hi', ?_⟩
    rw [hi']
    have : ((List.range l0).map q)[i]? = some (q i) := by simp [hil]
    rw [this] at hi
    injection hi with hi
    rw [hi]
end
end Go.Proofs.YtjhnmedcmikdpaaDoor
