/- How a slice of bytes comes in. -/
import Derived.Test.YtmjooghfghmngaaDoorJFrame
import Derived.Deep.Slices
set_option maxRecDepth 100000
namespace Go.Proofs.YtmjooghfghmngaaDoor
open Go.Joins Go.ChangeShapes Go.WideShapes Go.ChangeAt Go.RowKit

section
variable {H : Type} {enc : TypeId × Value → H}
theorem open_bytes {w : World} {r : Reach} {b0 : Nat} {v : Value} {d : DataW H} {p : List MemPlace} (hv : Value.okWide Tryd.prog w r b0 26 v) (h : DataW.Trod enc Tryd.prog w 0 (fun _ => true) true 26 v d p) :
    ∃ (A : Option Addr) (xs : List UInt8) (cap : Nat), v = .slice A xs.length cap ∧ Lib.BytesAt w A xs.length xs ∧ (A = none → cap = 0) := by
  obtain ⟨a0, l0, c0, rfl⟩ := okWide_slice Tryd.underlying26 hv
  obtain ⟨fuel, hf⟩ := h
  rcases Go.Deep.open_slice1 Tryd.underlying26 (by kernel_rfl) hf with ⟨h1, h2⟩ | ⟨a, len, cap, m, n, V, D, Pl, h1, hba, hlc, hcm, hm, hx, hcell⟩
  · simp only [Value.cells, List.cons.injEq, Value.slice.injEq, and_true] at h1
    obtain ⟨rfl, rfl, rfl⟩ := h1
    exact ⟨none, [], 0, rfl, fun hp => absurd hp (by simp), fun _ => rfl⟩
  · simp only [Value.cells, List.cons.injEq, Value.slice.injEq, and_true] at h1
    obtain ⟨rfl, rfl, rfl⟩ := h1
    simp only [if_true] at hm
    subst hm
    have each : ∀ i, i < l0 → ∃ q : UInt8, w.cell? (a.add i) = some (.int .u8 (q.toNat : Nat)) := fun i hi => by
      obtain ⟨hc, ht⟩ := hcell i (by omega)
      obtain ⟨x, e0, -, wx⟩ := DataW.trod_int Tryd.underlying5 ht
      have e1 : V i = .int .u8 x := by simpa using e0
      have hb := bounds_u8 wx
      refine ⟨UInt8.ofNat x.toNat, ?_⟩
      rw [hc, e1, UInt8.toNat_ofNat', Nat.mod_eq_of_lt (by omega)]
      congr 2
      omega
    obtain ⟨q, hq⟩ := Go.Deep.choose_lt each
    refine ⟨some a, (List.range l0).map q, m, by simp, fun hp => ?_, fun e => by cases e⟩
    simp only [List.length_map, List.length_range] at hp ⊢
    obtain ⟨b, o, sp⟩ := a
    have h0 := hq 0 hp
    have hsp : sp = none := by
      simp only [Addr.add] at h0
      exact cell_spot h0
    subst hsp
    refine ⟨b, o, rfl, fun i hi => ?_⟩
    have hi' := hq i hi
    rw [show (⟨b, o, none⟩ : Addr).add i = ⟨b, o + i, none⟩ by simp [Addr.add]] at hi'
    rw [hi']
    simp [List.getD_eq_getElem?_getD, hi]
end
end Go.Proofs.YtmjooghfghmngaaDoor
