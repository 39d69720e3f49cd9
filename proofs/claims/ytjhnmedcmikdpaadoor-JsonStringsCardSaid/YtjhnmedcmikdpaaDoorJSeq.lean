/- The parts of a list, or an object, so far. -/
import Derived.Test.YtjhnmedcmikdpaaDoorJTake
namespace Go.Proofs.YtjhnmedcmikdpaaDoor
open Go.RowKit Go.Shelf Go.Lib

/-- Below block n, but for block b, all is as it was. -/
structure Fr (n b : Nat) (W W' : World) : Prop where
  os : W'.os = W.os
  tape : W'.tape = W.tape
  output : W'.output = W.output
  size : W.heap.size ≤ W'.heap.size
  block : ∀ k, k < n → k ≠ b → W'.heap[k]? = W.heap[k]?
theorem Fr.refl (n b : Nat) (W : World) : Fr n b W W := ⟨rfl, rfl, rfl, Nat.le_refl _, fun _ _ _ => rfl⟩
theorem Fr.trans {n b : Nat} {W1 W2 W3 : World} (h : Fr n b W1 W2) (k : Fr n b W2 W3) : Fr n b W1 W3 :=
  ⟨k.os.trans h.os, k.tape.trans h.tape, k.output.trans h.output, Nat.le_trans h.size k.size, fun i hi hb => (k.block i hi hb).trans (h.block i hi hb)⟩
theorem Fr.of {n b : Nat} {W W' : World} (h : W.grownBy W' (some b)) (hn : n ≤ W.heap.size) : Fr n b W W' :=
  ⟨h.os, h.tape, h.output, h.size, fun k hk hb => h.block k (by omega) (by simpa using hb)⟩
theorem Fr.back {n b : Nat} {W W' : World} (h : Fr n b W W') (hn : W.heap.size = n) : W.grownBy W' (some b) :=
  ⟨h.os, h.tape, h.output, h.size, fun k hk hb => h.block k (by omega) (by simpa using hb)⟩
theorem Fr.own {n b : Nat} {W W' : World} {q : Option Nat} (h : W.grownBy W' q) (hn : n ≤ W.heap.size) (hq : ∀ k, q = some k → n ≤ k) : Fr n b W W' :=
  ⟨h.os, h.tape, h.output, h.size, fun k hk _ => h.block k (by omega) (fun e => by have := hq k e.symm; omega)⟩
theorem Fr.set {n b : Nat} {W W' : World} (h : Fr n b W W') {g i : Nat} (hg : n ≤ g) (x : Value) : Fr n b W (W'.setCell ⟨g, i, none⟩ x) :=
  ⟨h.os, h.tape, h.output, by simpa [World.setCell] using h.size, fun k hk hb => (Below.heap_setCell _ _ _ k (by show k ≠ g; omega)).trans (h.block k hk hb)⟩

/-- What a list, or an object, holds so far: the boxes at n and n + 1, the value at n + 3, rows of the call's own. -/
structure SeqP (b n : Nat) (ar K : Int) (d : Nat) (kv lv : Value) (l : List PV) (F : Nat → Prop) (ks : List ByteArray) (xs : List JV) (W : World) : Prop where
  box : W.heap[n]? = some (.cells #[.pointer (some ⟨b, 0, none⟩)] 60 (0, 0))
  boxa : W.heap[n + 1]? = some (.cells #[.int .i64 ar] 3 (0, 0))
  res : W.heap[n + 2]? = some (.cells #[.int .i64 0, .string ⟨#[]⟩, .slice none 0 0, .slice none 0 0] 25 (0, 0))
  val : W.heap[n + 3]? = some (.cells #[.int .i64 K, .string ⟨#[]⟩, kv, lv] 25 (0, 0))
  keys : W.ownsRow (n + 4) 9 1 kv ks.length (ks.flatMap strC)
  list : W.ownsRow (n + 4) 25 4 lv xs.length (l.flatMap PV.cells)
  len : l.length = xs.length
  each : ∀ (i : Nat) p x, l[i]? = some p → xs[i]? = some x → VAt W F (d + 1) p x
  new : ∀ k, F k → n + 4 ≤ k ∧ k < W.heap.size ∧ some k ≠ kv.ownBlock ∧ some k ≠ lv.ownBlock
  apart : kv.ownBlock = none ∨ kv.ownBlock ≠ lv.ownBlock
def SeqI (b n : Nat) (ar K : Int) (d : Nat) (ks : List ByteArray) (xs : List JV) (W : World) : Prop := ∃ kv lv l F, SeqP b n ar K d kv lv l F ks xs W

section
variable {b n d : Nat} {ar K : Int} {kv lv : Value} {l : List PV} {F : Nat → Prop} {ks : List ByteArray} {xs : List JV} {W W' W3 w5 : World}
theorem SeqP.keep (h : SeqP b n ar K d kv lv l F ks xs W) (hb : b < n) (hG : W.grownBy W' (some b)) : SeqP b n ar K d kv lv l F ks xs W' :=
  { h with
    box := (hG.block _ (blk_lt h.box) (by simp; omega)).trans h.box
    boxa := (hG.block _ (blk_lt h.boxa) (by simp; omega)).trans h.boxa
    res := (hG.block _ (blk_lt h.res) (by simp; omega)).trans h.res
    val := (hG.block _ (blk_lt h.val) (by simp; omega)).trans h.val
    keys := h.keys.kept hG (by
      cases e : kv.ownBlock with
      | none => exact .inl rfl
      | some k => have := h.keys.lt k e; exact .inr (by simp; omega))
    list := h.list.kept hG (by
      cases e : lv.ownBlock with
      | none => exact .inl rfl
      | some k => have := h.list.lt k e; exact .inr (by simp; omega))
    each := fun i p x hp hx => (h.each i p x hp hx).keep (fun g hg => ⟨hg, hG.block g (h.new g hg).2.1 (by have := (h.new g hg).1; simp; omega)⟩)
    new := fun k hk => ⟨(h.new k hk).1, Nat.lt_of_lt_of_le (h.new k hk).2.1 hG.size, (h.new k hk).2.2⟩ }
/-- One part more. -/
theorem SeqP.grow (h : SeqP b n ar K d kv lv l F ks xs W3) {W : World} (hw : n + 4 ≤ W.heap.size) (hWs : W.heap.size ≤ W3.heap.size) {F0 : Nat → Prop} {p : PV} {x : JV} (hV : VAt W3 F0 (d + 1) p x) (hF : ∀ k, F0 k → W.heap.size ≤ k ∧ k < W3.heap.size)
    (hkl : ∀ k, kv.ownBlock = some k → k < W.heap.size) (hll : ∀ k, lv.ownBlock = some k → k < W.heap.size) {h0 c0 : Nat}
    (hrow : w5.ownsRow (n + 4) 25 4 (.slice (some ⟨h0, 0, none⟩) (xs.length + 1) c0) (xs.length + 1) ((l ++ [p]).flatMap PV.cells))
    (hval : w5.heap[n + 3]? = some (.cells #[.int .i64 K, .string ⟨#[]⟩, kv, .slice (some ⟨h0, 0, none⟩) (xs.length + 1) c0] 25 (0, 0)))
    (hsz : W3.heap.size ≤ w5.heap.size) (hoth : ∀ k, k < W3.heap.size → some k ≠ lv.ownBlock → k ≠ h0 → k ≠ n + 3 → w5.heap[k]? = W3.heap[k]?) (hh0 : some h0 = lv.ownBlock ∨ h0 = W3.heap.size) :
    SeqI b n ar K d ks (xs ++ [x]) w5 := by
  have hbase : n + 4 ≤ h0 := by
    rcases hh0 with e | e
    · exact (h.list.lt h0 e.symm).1
    · omega
  have hk0 : ∀ k, kv.ownBlock = some k → k ≠ h0 ∧ k < W3.heap.size ∧ n + 4 ≤ k := fun k e => by
    have h1 := h.keys.lt k e
    refine ⟨?_, h1.2, h1.1⟩
    rcases hh0 with e' | e'
    · rcases h.apart with h2 | h2
      · rw [h2] at e; cases e
      · intro h3; apply h2; rw [e, ← e', h3]
    · omega
  have hlb : ∀ k, k < n + 4 → some k ≠ lv.ownBlock := fun k hk e => by have := h.list.lt k e.symm; omega
  have hkv : ∀ k, kv.ownBlock = some k → some k ≠ lv.ownBlock := fun k e e2 => by
    rcases h.apart with h3 | h3
    · rw [e] at h3; cases h3
    · exact h3 (by rw [e]; exact e2)
  have hl0 : ∀ k, F0 k → some k ≠ lv.ownBlock := fun k hk e => by have := hll k e.symm; have := (hF k hk).1; omega
  have hFh : ∀ g, F0 g → g ≠ h0 := fun g hg => by
    have h1 := hF g hg
    rcases hh0 with e' | e'
    · have := hll h0 e'.symm; omega
    · omega
  have hGh : ∀ g, F g → g ≠ h0 := fun g hg => by
    have h1 := h.new g hg
    rcases hh0 with e' | e'
    · intro h3; exact h1.2.2.2 (by rw [h3]; exact e')
    · omega
  refine ⟨kv, .slice (some ⟨h0, 0, none⟩) (xs.length + 1) c0, l ++ [p], fun k => F k ∨ F0 k, ?_, ?_, ?_, hval, ?_, by simpa using hrow, by simp [h.len], ?_, ?_, ?_⟩
  · exact (hoth n (blk_lt h.box) (hlb _ (by omega)) (by omega) (by omega)).trans h.box
  · exact (hoth (n + 1) (blk_lt h.boxa) (hlb _ (by omega)) (by omega) (by omega)).trans h.boxa
  · exact (hoth (n + 2) (blk_lt h.res) (hlb _ (by omega)) (by omega) (by omega)).trans h.res
  · refine ⟨h.keys.1, ?_⟩
    rcases h.keys.2 with h1 | ⟨g, cap, cur, e, hb1, hg, rest⟩
    · exact .inl h1
    · have h2 := hk0 g (by rw [e]; rfl)
      exact .inr ⟨g, cap, cur, e, hb1, (hoth g h2.2.1 (hkv g (by rw [e]; rfl)) h2.1 (by omega)).trans hg, rest⟩
  · intro i q y hq hy
    rcases Nat.lt_or_ge i l.length with hi | hi
    · rw [List.getElem?_append_left hi] at hq
      rw [List.getElem?_append_left (by rw [← h.len]; exact hi)] at hy
      exact (h.each i q y hq hy).keep (fun g hg => ⟨.inl hg, hoth g (h.new g hg).2.1 (h.new g hg).2.2.2 (hGh g hg) (by have := (h.new g hg).1; omega)⟩)
    · have e : i = l.length := by
        have := (List.getElem?_eq_some_iff.1 hq).1
        simp at this; omega
      subst e
      rw [List.getElem?_concat_length] at hq
      rw [h.len, List.getElem?_concat_length] at hy
      cases hq; cases hy
      exact hV.keep (fun g hg => ⟨.inr hg, hoth g (hF g hg).2 (hl0 g hg) (hFh g hg) (by have := (hF g hg).1; omega)⟩)
  · intro k hk
    rcases hk with hk | hk
    · have h1 := h.new k hk
      refine ⟨h1.1, by omega, h1.2.2.1, ?_⟩
      have := hGh k hk
      simpa [Value.ownBlock] using this
    · have h1 := hF k hk
      refine ⟨by omega, by omega, ?_, ?_⟩
      · intro e; have := hkl k e.symm; omega
      · have := hFh k hk
        simpa [Value.ownBlock] using this
  · cases e : kv.ownBlock with
    | none => exact .inl rfl
    | some k =>
      refine .inr ?_
      have := (hk0 k e).1
      simpa [Value.ownBlock] using this
end
end Go.Proofs.YtjhnmedcmikdpaaDoor
