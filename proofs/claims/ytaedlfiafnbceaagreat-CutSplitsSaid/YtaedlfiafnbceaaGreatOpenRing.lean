/- How a ring comes in, and that it reads behind the call as it did. -/
import Derived.Test.YtaedlfiafnbceaaGreatOpen
import Derived.Test.YtaedlfiafnbceaaGreatItems
import Derived.Deep.SlicePairs
import Derived.ChangeStays
import Derived.SizedLaws
import Derived.ChangeBook
set_option maxRecDepth 100000
namespace Go.Proofs.YtaedlfiafnbceaaGreat
open Go.Joins Go.ChangeShapes Go.WideShapes Go.ChangeAt Go.RowKit

section
variable {H : Type} {enc : TypeId × Value → H}
theorem again {w w' : World} {sp : Nat → Bool} {t : TypeId} (hr : Tryz.prog.readableRec t = true) (hrow : t < Tryz.prog.types.size) {v : Value} {d : DataW H} {p : List MemPlace}
  (h : DataW.Trod enc Tryz.prog w 0 (fun _ => true) true t v d p) (hb : Below w.heap.size w w') (hlt : ∀ q ∈ p, q.block < w.heap.size) (hs : ∀ q ∈ p, sp q.block = true) : DataW.Trod enc Tryz.prog w' 0 sp true t v d p := by
 obtain ⟨n, hn⟩ := h
 exact ⟨n, DataW.trod_stays (kids_book (by kernel_rfl) hr) (book_sized hr) (fun h => by cases h) ⟨hrow, book_self t⟩ hn (fun q hq => hb.same (hlt q hq)) hs⟩
theorem open_ring {w : World} {r : Reach} {b0 : Nat} {v : Value} {d : DataW H} {p : List MemPlace} (hv : Value.okWide Tryz.prog w r b0 23 v) (h : DataW.Trod enc Tryz.prog w 0 (fun _ => true) true 23 v d p) :
  ∃ (A : Option Addr) (ps : List (Int × Int)) (cap : Nat), v = .slice A ps.length cap ∧ NilOk A cap ∧ Pts w w.heap.size A ps ∧ (ps = [] ∨ ∃ els sp, d = .slice els sp ∧ els.length = ps.length) ∧ ps.length ≤ cap := by
 obtain ⟨a0, l0, c0, rfl⟩ := okWide_slice Tryz.underlying23 hv
 obtain ⟨fuel, hf⟩ := h
 rcases Go.Deep.open_slice_pairs Tryz.underlying23 Tryz.underlying35 (by kernel_rfl) rfl rfl (by kernel_rfl) (by kernel_rfl) hf with ⟨h1, h2⟩ | ⟨a, len, cap, m, n, V0, V1, D0, D1, P0, P1, h1, hba, hlc, hcm, hm, hx, hcell⟩
 ·simp only [Value.cells, List.cons.injEq, Value.slice.injEq, and_true] at h1
  obtain ⟨rfl, rfl, rfl⟩ := h1
  exact ⟨none, [], 0, rfl, fun _ => rfl, fun hp => absurd hp (by simp), Or.inl rfl, Nat.le_refl _⟩
 ·simp only [Value.cells, List.cons.injEq, Value.slice.injEq, and_true] at h1
  obtain ⟨rfl, rfl, rfl⟩ := h1
  obtain ⟨rfl, rfl⟩ := Prod.mk.inj hx
  simp only [if_true] at hm
  subst hm
  have hcs := fun i (hi : i < l0) => hcell i (by omega)
  have each : ∀ i, i < l0 → ∃ q : Int × Int, V0 i = .int .i64 q.1 ∧ V1 i = .int .i64 q.2 := fun i hi => by
   obtain ⟨-, -, t0, t1⟩ := hcs i hi
   obtain ⟨x, e0, -, -⟩ := DataW.trod_int Tryz.underlying3 t0
   obtain ⟨y, e1, -, -⟩ := DataW.trod_int Tryz.underlying3 t1
   exact ⟨(x, y), by simpa using e0, by simpa using e1⟩
  obtain ⟨q, hq⟩ := Go.Deep.choose_lt each
  refine ⟨some a, (List.range l0).map q, m, by simp, fun h => (by cases h), fun hp => ?_, Or.inr ⟨_, _, rfl, by simp⟩, by simp; omega⟩
  have hl : 0 < l0 := by simpa using hp
  have hab : a.block < w.heap.size := by
   have := World.block_lt_of_cell? w _ (hcs 0 hl).1
   rwa [block_of_add] at this
  refine ⟨a, rfl, hab, fun k p hk => ?_⟩
  have hkl : k < l0 := by
   have := (List.getElem?_eq_some_iff.1 hk).1
   simpa using this
  obtain rfl : q k = p := by simpa [hkl] using hk
  obtain ⟨c0, c1, -, -⟩ := hcs k hkl
  obtain ⟨e0, e1⟩ := hq k hkl
  exact ⟨by rw [c0, e0], by rw [Go.Deep.add_add, c1, e1]⟩
end
end Go.Proofs.YtaedlfiafnbceaaGreat
