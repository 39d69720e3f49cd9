/- One part more: the world behind the append and both stores, in either order. -/
import Derived.Test.YtjhnmedcmikdpaaDoorJSeq
namespace Go.Proofs.YtjhnmedcmikdpaaDoor
open Go.RowKit Go.Shelf Go.Lib

theorem flat4 : ∀ l : List PV, (l.flatMap PV.cells).length = l.length * 4
  | [] => rfl
  | y :: l => by rw [List.flatMap_cons, List.length_append, flat4 l, List.length_cons]; show 4 + _ = _; omega
def zeroPV : PV := ⟨0, ⟨#[]⟩, .slice none 0 0, .slice none 0 0⟩
/-- The four stores of an element. -/
def put4 (W : World) (g i : Nat) (x : PV) : World := (((W.setCell ⟨g, i, none⟩ (.int .i64 x.k)).setCell ⟨g, i + 1, none⟩ (.string x.t)).setCell ⟨g, i + 2, none⟩ x.kv).setCell ⟨g, i + 3, none⟩ x.lv
theorem put4_far (W : World) {g i k : Nat} (x : PV) (h : k ≠ g) : (put4 W g i x).heap[k]? = W.heap[k]? := by
  unfold put4
  rw [Below.heap_setCell _ _ _ k (by show k ≠ g; exact h), Below.heap_setCell _ _ _ k (by show k ≠ g; exact h), Below.heap_setCell _ _ _ k (by show k ≠ g; exact h), Below.heap_setCell _ _ _ k (by show k ≠ g; exact h)]
theorem put4_size (W : World) (g i : Nat) (x : PV) : (put4 W g i x).heap.size = W.heap.size := by simp [put4, World.setCell]
theorem put4_below {W W' : World} {B g i : Nat} (h : Below B W W') (hg : B ≤ g) (x : PV) : Below B W (put4 W' g i x) :=
  (((h.setCell (p := ⟨g, i, none⟩) hg _).setCell (p := ⟨g, i + 1, none⟩) hg _).setCell (p := ⟨g, i + 2, none⟩) hg _).setCell (p := ⟨g, i + 3, none⟩) hg _
theorem Fr.below {n b : Nat} {W W' : World} (h : Below n W W') : Fr n b W W' := ⟨h.os, h.tape, h.output, h.size, fun k hk _ => h.block k hk⟩

section
variable {b n d c : Nat} {ar K : Int} {kv lv : Value} {l : List PV} {F F0 : Nat → Prop} {ks : List ByteArray} {xs : List JV} {W W3 W5 : World} {A : Option Addr} {s : List UInt8} {tk : Tk} {p : PV} {x : JV} {h0 c0 : Nat}
/-- Behind the append. -/
structure Apd (b n : Nat) (ar K : Int) (d : Nat) (kv lv : Value) (l : List PV) (F : Nat → Prop) (ks : List ByteArray) (xs : List JV) (W W3 W5 : World) (F0 : Nat → Prop) (p : PV) (x : JV) (h0 c0 : Nat) : Prop where
  seq : SeqP b n ar K d kv lv l F ks xs W3
  room : n + 4 ≤ W.heap.size
  grew : W.heap.size ≤ W3.heap.size
  part : VAt W3 F0 (d + 1) p x
  new : ∀ k, F0 k → W.heap.size ≤ k ∧ k < W3.heap.size
  kl : ∀ k, kv.ownBlock = some k → k < W.heap.size
  ll : ∀ k, lv.ownBlock = some k → k < W.heap.size
  row : W5.ownsRow (n + 4) 25 4 (.slice (some ⟨h0, 0, none⟩) (xs.length + 1) c0) (xs.length + 1) (l.flatMap PV.cells ++ zeroPV.cells)
  grow : W3.grownBy W5 lv.ownBlock
  at0 : some h0 = lv.ownBlock ∨ h0 = W3.heap.size
theorem Apd.base (h : Apd b n ar K d kv lv l F ks xs W W3 W5 F0 p x h0 c0) : n + 4 ≤ h0 := (h.row.lt h0 rfl).1
theorem Apd.lt (h : Apd b n ar K d kv lv l F ks xs W W3 W5 F0 p x h0 c0) : h0 < W5.heap.size := (h.row.lt h0 rfl).2
theorem Apd.below (h : Apd b n ar K d kv lv l F ks xs W W3 W5 F0 p x h0 c0) : Below n W3 W5 :=
  ⟨h.grow.os, h.grow.tape, h.grow.output, h.grow.size, fun k hk => h.grow.block k (by have := h.room; have := h.grew; omega) (fun e => by have := h.seq.list.lt k e.symm; omega)⟩
theorem Apd.cells (h : Apd b n ar K d kv lv l F ks xs W W3 W5 F0 p x h0 c0) :
    (W5.cell? ⟨h0, xs.length * 4, none⟩ = some (.int .i64 0) ∧ W5.cell? ⟨h0, xs.length * 4 + 1, none⟩ = some (.string ⟨#[]⟩) ∧ W5.cell? ⟨h0, xs.length * 4 + 2, none⟩ = some (.slice none 0 0) ∧ W5.cell? ⟨h0, xs.length * 4 + 3, none⟩ = some (.slice none 0 0)) ∧
    (∀ i, W5.frozen? ⟨h0, i, none⟩ = false) := by
  have hfl : (l.flatMap PV.cells).length = xs.length * 4 := by
    rw [← h.seq.len, flat4]
  have hc : ∀ j, j < 4 → W5.cell? ⟨h0, xs.length * 4 + j, none⟩ = zeroPV.cells[j]? := fun j hj => by
    rw [h.row.cellAt _ (by omega), List.getElem?_append_right (by omega), hfl, Nat.add_sub_cancel_left]
  exact ⟨⟨hc 0 (by decide), hc 1 (by decide), hc 2 (by decide), hc 3 (by decide)⟩, fun i => h.row.frozenAt i⟩
/-- First the element, then the slice. -/
theorem Apd.first (h : Apd b n ar K d kv lv l F ks xs W W3 W5 F0 p x h0 c0) :
    SeqI b n ar K d ks (xs ++ [x]) ((put4 W5 h0 (xs.length * 4) p).setCell ⟨n + 3, 3, none⟩ (.slice (some ⟨h0, 0, none⟩) (xs.length + 1) c0)) ∧ Below n W3 ((put4 W5 h0 (xs.length * 4) p).setCell ⟨n + 3, 3, none⟩ (.slice (some ⟨h0, 0, none⟩) (xs.length + 1) c0)) := by
  have hb := h.base
  have hl := own_last (x := p) h.row h.seq.len
  have hv3 : W5.heap[n + 3]? = _ := (h.grow.block (n + 3) (blk_lt h.seq.val) (fun e => by have := h.seq.list.lt _ e.symm; omega)).trans h.seq.val
  have hv4 := (put4_far W5 (g := h0) (i := xs.length * 4) p (show n + 3 ≠ h0 by omega)).trans hv3
  refine ⟨h.seq.grow h.room h.grew h.part h.new h.kl h.ll (hl.1.kept (grew_set (World.grownBy.refl _ (some (n + 3))) 3 _) (.inr (by simp [Value.ownBlock]; omega))) (blk_set hv4 3 _) ?_ ?_ h.at0, (put4_below h.below (by omega) p).setCell (p := ⟨n + 3, 3, none⟩) (by show n ≤ n + 3; omega) _⟩
  · have := h.grow.size
    simp only [World.setCell, put4_size, Array.size_modify]; exact this
  · intro k hk h1 h2 h3
    rw [Below.heap_setCell _ _ _ k (by show k ≠ n + 3; exact h3), put4_far W5 p h2]
    exact h.grow.block k hk h1
/-- First the slice, then the element. -/
theorem Apd.second (h : Apd b n ar K d kv lv l F ks xs W W3 W5 F0 p x h0 c0) :
    SeqI b n ar K d ks (xs ++ [x]) (put4 (W5.setCell ⟨n + 3, 3, none⟩ (.slice (some ⟨h0, 0, none⟩) (xs.length + 1) c0)) h0 (xs.length * 4) p) ∧ Below n W3 (put4 (W5.setCell ⟨n + 3, 3, none⟩ (.slice (some ⟨h0, 0, none⟩) (xs.length + 1) c0)) h0 (xs.length * 4) p) := by
  have hb := h.base
  have hr := h.row.kept (grew_set (World.grownBy.refl W5 (some (n + 3))) 3 (.slice (some ⟨h0, 0, none⟩) (xs.length + 1) c0)) (.inr (by simp [Value.ownBlock]; omega))
  have hl := own_last (x := p) hr h.seq.len
  have hv3 : W5.heap[n + 3]? = _ := (h.grow.block (n + 3) (blk_lt h.seq.val) (fun e => by have := h.seq.list.lt _ e.symm; omega)).trans h.seq.val
  have hv4 := (put4_far (W5.setCell ⟨n + 3, 3, none⟩ (.slice (some ⟨h0, 0, none⟩) (xs.length + 1) c0)) (g := h0) (i := xs.length * 4) p (show n + 3 ≠ h0 by omega)).trans (blk_set hv3 3 _)
  refine ⟨h.seq.grow h.room h.grew h.part h.new h.kl h.ll hl.1 hv4 ?_ ?_ h.at0, put4_below (h.below.setCell (p := ⟨n + 3, 3, none⟩) (by show n ≤ n + 3; omega) _) (by omega) p⟩
  · have := h.grow.size
    rw [put4_size]
    simp only [World.setCell, Array.size_modify]; exact this
  · intro k hk h1 h2 h3
    rw [put4_far _ p h2, Below.heap_setCell _ _ _ k (by show k ≠ n + 3; exact h3)]
    exact h.grow.block k hk h1
end
/-- What became of one part. -/
def PartOut (n b : Nat) (A : Option Addr) (c : Nat) (s : List UInt8) (ar K : Int) (d : Nat) (r : RR (List ByteArray × JV × Tk)) (ks : List ByteArray) (xs : List JV) (W : World) (e : Ending) (w' : World) : Prop :=
  Fr n b W w' ∧ ((∃ y, r = .ok y ∧ e = .returned (.tuple #[]) ∧ Rd w' b A c s y.2.2.k (y.2.2.a : Nat) y.2.2.t y.2.2.q ∧ SeqI b n ar K d (ks ++ y.1) (xs ++ [y.2.1]) w') ∨ (∃ (a : Nat) (e' : Int), r = .error (a, e') ∧ e = thrown a e'))
end Go.Proofs.YtjhnmedcmikdpaaDoor
