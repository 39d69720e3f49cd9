/- Operations of a drawn region one by one; a row of values that grows by one. -/
import Derived.Test.YtmjooghfghmngaaDoorJVal
namespace Go.Proofs.YtmjooghfghmngaaDoor
open Go.RowKit Go.Shelf Go.Lib


/- Short names for what lists and arrays do. -/
theorem jA {α : Type} {xs : List α} {i : Nat} (h : i < xs.toArray.size) : xs.toArray[i] = xs[i]'(by simpa using h) := rfl
theorem jB {α : Type} {a : α} {u : List α} (h : 0 < (a :: u).length) : (a :: u)[0] = a := rfl
theorem jC {α : Type} {a : α} {u : List α} {i : Nat} (h : i + 1 < (a :: u).length) : (a :: u)[i + 1] = u[i]'(by simpa using h) := rfl
theorem jD {α : Type} {xs : List α} {i : Nat} {a : α} : xs.toArray.setIfInBounds i a = (xs.set i a).toArray := List.setIfInBounds_toArray ..
theorem jE {α : Type} {a b : α} {u : List α} : (a :: u).set 0 b = b :: u := rfl
theorem jF {α : Type} {a b : α} {u : List α} {n : Nat} : (a :: u).set (n + 1) b = a :: u.set n b := rfl
section
variable {P : Program} {ops : Array Oper} {Q : Exit → Act → World → Prop} {md : Region.Mode} {S : World → Prop}
/-- An operation that isn't wanted is passed over: it may come up now. -/
theorem takeNone {i : Nat} {oi : Oper} {fuel : Nat} {listed : Array Bool} {a : Act} {w : World} (hr : (Region.ready md ops listed).contains i = true) (hi : ops[i]? = some oi)
    (hw : Region.wanted oi (yielded ops a.tmps) = false) (hf : Region.free md ops listed i = true) (hs : Region.noSelect ops = true)
    (hQ : ∀ c a w, Q (.panic c) (a.put oi.dst undef) w → Q (.panic c) a w) (hS : S w)
    (h : wpAnyH P md ops Q S fuel (listed.setIfInBounds i true) (a.put oi.dst undef) w) : wpAnyH P md ops Q S (fuel + 1) listed a w :=
  wpAnyH_take hi hs hf hr hQ (.inr ⟨hw, rfl⟩) hS h
/-- An operation that yields its value under S is taken first. -/
theorem takeSome {i : Nat} {oi : Oper} {v : Value} {fuel : Nat} {listed : Array Bool} {a : Act} {w : World} (hr : (Region.ready md ops listed).contains i = true) (hi : ops[i]? = some oi)
    (hw : Region.wanted oi (yielded ops a.tmps) = true) (hf : Region.free md ops listed i = true) (hs : Region.noSelect ops = true)
    (hQ : ∀ c a w, Q (.panic c) (a.put oi.dst v) w → Q (.panic c) a w) (hS : S w) (hy : ∀ w, S w → (execOp a.eval oi).run P w = .ok (.value v) w)
    (h : wpAnyH P md ops Q S fuel (listed.setIfInBounds i true) (a.put oi.dst v) w) : wpAnyH P md ops Q S (fuel + 1) listed a w :=
  wpAnyH_take hi hs hf hr hQ (.inl ⟨hw, hy⟩) hS h
theorem tZ (i : Nat) {oi : Oper} {v : Value} {fuel : Nat} {listed : Array Bool} {a a' : Act} {w : World}
    (h : wpAnyH P md ops Q S fuel (listed.setIfInBounds i true) a' w)
    (hr : (Region.ready md ops listed).contains i = true := by decide +kernel) (hi : ops[i]? = some oi := by rfl) (hw : Region.wanted oi (yielded ops a.tmps) = true := by rfl)
    (hf : Region.free md ops listed i = true := by decide +kernel) (hs : Region.noSelect ops = true := by decide +kernel) (hQ : ∀ c a w, Q (.panic c) (a.put oi.dst v) w → Q (.panic c) a w := by exact fun _ _ _ h => h) (hS : S w := by assumption)
    (hy : ∀ w, S w → (execOp a.eval oi).run P w = .ok (.value v) w := by intro w0 hSw; (try dsimp only at hSw); go_simp; (try (with_reducible rfl)); done) (ha : a.put oi.dst v = a' := by (try simp only [Act.put, jA, jB, jC, jD, jE, jF]) <;> rfl) : wpAnyH P md ops Q S (fuel + 1) listed a w :=
  wpAnyH_take hi hs hf hr hQ (.inl ⟨hw, hy⟩) hS (ha ▸ h)
theorem pZ (i : Nat) {oi : Oper} {fuel : Nat} {listed : Array Bool} {a a' : Act} {w : World}
    (h : wpAnyH P md ops Q S fuel (listed.setIfInBounds i true) a' w)
    (hr : (Region.ready md ops listed).contains i = true := by decide +kernel) (hi : ops[i]? = some oi := by rfl) (hw : Region.wanted oi (yielded ops a.tmps) = false := by rfl)
    (hf : Region.free md ops listed i = true := by decide +kernel) (hs : Region.noSelect ops = true := by decide +kernel) (hQ : ∀ c a w, Q (.panic c) (a.put oi.dst undef) w → Q (.panic c) a w := by exact fun _ _ _ h => h) (hS : S w := by assumption) (ha : a.put oi.dst undef = a' := by (try simp only [Act.put, jA, jB, jC, jD, jE, jF]) <;> rfl) : wpAnyH P md ops Q S (fuel + 1) listed a w :=
  wpAnyH_take hi hs hf hr hQ (.inr ⟨hw, rfl⟩) hS (ha ▸ h)
end
theorem wanted_of {ops : Array Oper} {o : Oper} {a : Act} (hgd : o.guard = none) : Region.wanted o (yielded ops a.tmps) = true := by simp [Region.wanted, hgd]

/-- A row of the call's own. -/
structure Kind {α : Type} (T : TypeId) (enc : α → List Value) (n bytes : Nat) : Prop where
  len : ∀ a, (enc a).length = n
  one : ∀ a, ∀ u ∈ enc a, u.oneCell' = true
  pos : 0 < n
  info : ∃ i z, Tryd.prog.info? T = some i ∧ i.zero = some z ∧ i.size = n ∧ i.bytes = bytes ∧ z.cells.size = n
theorem Kind.mk' {α : Type} {T : TypeId} {enc : α → List Value} {n bytes : Nat} {z : Value} (hl : ∀ a, (enc a).length = n) (h1 : ∀ a, ∀ u ∈ enc a, u.oneCell' = true) (hp : 0 < n) (hi : (Tryd.prog.info? T).map (fun i => (i.zero, i.size, i.bytes)) = some (some z, n, bytes)) (hz : z.cells.size = n) : Kind T enc n bytes := by
  obtain ⟨i, h2, h3, h4, h5⟩ := info_parts hi
  exact ⟨hl, h1, hp, i, z, h2, h3, h4, h5, hz⟩
def OkPV (x : PV) : Prop := x.kv.oneCell' = true ∧ x.lv.oneCell' = true
def strC (t : ByteArray) : List Value := [.string t]
theorem kindS : Kind 9 strC 1 16 := Kind.mk' (z := .string ⟨#[]⟩) (fun _ => rfl) (fun a u hu => by obtain rfl := List.mem_singleton.1 hu; rfl) (by decide) (by kernel_rfl) rfl

section
variable {W : World} {B : Nat} {ops : Array Oper} {o : Oper} {a : Act} {KK : Act → World → Prop} {Q : Exit → Act → World → Prop} {E : Prop}
theorem step_append_row (n bytes : Nat) (T TS : TypeId) (i : TypeInfo) (z : Value) (hT : Tryd.prog.underlying TS = some (.slice T)) (hi : Tryd.prog.info? T = some i) (hz0 : i.zero = some z) (hz1 : i.size = n) (hz2 : i.bytes = bytes) (hz3 : z.cells.size = n) (hn0 : 0 < n)
    {v : Value} {m : Nat} {xs : List Value} (hown : W.ownsRow B T n v m xs) (hB : B ≤ W.heap.size) (new : List Value) (hnl : new.length = n) (hn1 : ∀ u ∈ new, u.oneCell' = true) (g : Nat) (c : Nat) (hnew : ∀ j u, new[j]? = some u → W.cell? ⟨g, j, none⟩ = some u) (hm : m + 1 ≤ maxLen) (hmb : (m + 1) * bytes ≤ 140737488355328)
    (hgd : o.guard = none) (s y : Operand) (ho : o.op = .call { callee := .builtin .append, args := #[s, y], argTypes := #[TS, TS] })
    (hs : a.eval s = v) (hx : a.eval y = .slice (some ⟨g, 0, none⟩) 1 c)
    (h : ∀ (h0 c0 : Nat) (w' : World), w'.ownsRow B T n (.slice (some ⟨h0, 0, none⟩) (m + 1) c0) (m + 1) (xs ++ new) → W.grownBy w' v.ownBlock → (some h0 = v.ownBlock ∨ h0 = W.heap.size) → KK (a.put o.dst (.slice (some ⟨h0, 0, none⟩) (m + 1) c0)) w') :
    if Region.wanted o (yielded ops a.tmps) = true then Oper.wp Tryd.prog o a W KK Q else E := by
  rw [if_pos (wanted_of hgd)]
  obtain ⟨v', w', hr, h2, h3, h4, h5⟩ := run_append_own_at (P := Tryd.prog) W B TS o.type T i z n bytes hT hi hz0 hz1 hz2 hz3 hn0 v m xs hown ⟨g, 0, none⟩ 1 c new (by rw [hnl]; simp) (fun j u hu => by
    have := hnew j u hu
    rwa [show (⟨g, 0, none⟩ : Addr).add j = ⟨g, j, none⟩ by by_cases hj0 : j = 0 <;> simp [Addr.add, hj0]]) hn1 hm hmb hB
  obtain ⟨h0, c0, rfl⟩ : ∃ h0 c0, v' = .slice (some ⟨h0, 0, none⟩) (m + 1) c0 := by
    rcases h2.2 with ⟨rfl, e⟩ | ⟨h0, c0, cur, rfl, _⟩
    · omega
    · exact ⟨h0, c0, rfl⟩
  unfold Oper.wp execOp
  simp only [ho, resolve, invoke, builtin, Sem.run_bind, Sem.run_pure, Result.andThen_ok, List.map_toArray, List.map_cons, List.map_nil, hs, hx, hr]
  refine h _ _ _ h2 h3 ?_
  rcases h5 with h5 | h5
  · exact .inl h5
  · exact .inr (Option.some.inj h5)
end

/-- The last element of a row of values, stored anew. -/
theorem own_last {W : World} {B g c m : Nat} {l : List PV} {z x : PV} (h : W.ownsRow B 25 4 (.slice (some ⟨g, 0, none⟩) (m + 1) c) (m + 1) (l.flatMap PV.cells ++ z.cells)) (hl : l.length = m) :
    ((((W.setCell ⟨g, m * 4, none⟩ (.int .i64 x.k)).setCell ⟨g, m * 4 + 1, none⟩ (.string x.t)).setCell ⟨g, m * 4 + 2, none⟩ x.kv).setCell ⟨g, m * 4 + 3, none⟩ x.lv).ownsRow B 25 4 (.slice (some ⟨g, 0, none⟩) (m + 1) c) (m + 1) ((l ++ [x]).flatMap PV.cells) ∧
    W.grownBy ((((W.setCell ⟨g, m * 4, none⟩ (.int .i64 x.k)).setCell ⟨g, m * 4 + 1, none⟩ (.string x.t)).setCell ⟨g, m * 4 + 2, none⟩ x.kv).setCell ⟨g, m * 4 + 3, none⟩ x.lv) (some g) := by
  have hfl : (l.flatMap PV.cells).length = m * 4 := by
    rw [← hl]
    clear h hl
    induction l with
    | nil => rfl
    | cons y l ih => rw [List.flatMap_cons, List.length_append, ih, List.length_cons]; show 4 + _ = _; omega
  obtain ⟨h1, g1⟩ := h.stored (m * 4) (.int .i64 x.k)
  obtain ⟨h2, g2⟩ := h1.stored (m * 4 + 1) (.string x.t)
  obtain ⟨h3, g3⟩ := h2.stored (m * 4 + 2) x.kv
  obtain ⟨h4, g4⟩ := h3.stored (m * 4 + 3) x.lv
  refine ⟨?_, ((g1.trans g2).trans g3).trans g4⟩
  have e : ((((l.flatMap PV.cells ++ z.cells).set (m * 4) (.int .i64 x.k)).set (m * 4 + 1) (.string x.t)).set (m * 4 + 2) x.kv).set (m * 4 + 3) x.lv = (l ++ [x]).flatMap PV.cells := by
    rw [List.set_append_right _ _ (by omega), List.set_append_right _ _ (by omega), List.set_append_right _ _ (by omega), List.set_append_right _ _ (by omega), hfl]
    rw [show m * 4 - m * 4 = 0 by omega, show m * 4 + 1 - m * 4 = 1 by omega, show m * 4 + 2 - m * 4 = 2 by omega, show m * 4 + 3 - m * 4 = 3 by omega]
    rw [List.flatMap_append]
    rfl
  rw [e] at h4
  exact h4
end Go.Proofs.YtmjooghfghmngaaDoor

/- The parts of a list, or an object, so far. -/
namespace Go.Proofs.YtmjooghfghmngaaDoor
open Go.RowKit Go.Shelf Go.Lib

/-- Below block n, but for block b, all is as it was. -/
structure Fr (n b : Nat) (W W' : World) : Prop where
  os : W'.os = W.os
  tape : W'.tape = W.tape
  output : W'.output = W.output
  size : W.heap.size ≤ W'.heap.size
  block : ∀ k, k < n → k ≠ b → W'.heap[k]? = W.heap[k]?
theorem Fr.refl (n b : Nat) (W : World) : Fr n b W W := ⟨rfl, rfl, rfl, Nat.le_refl _, fun _ _ _ => rfl⟩
theorem Fr.trans {n b : Nat} {W1 W2 W3 : World} (h : Fr n b W1 W2) (k : Fr n b W2 W3) : Fr n b W1 W3 :=
  ⟨k.os.trans h.os, k.tape.trans h.tape, k.output.trans h.output, Nat.le_trans h.size k.size, fun i hi hb => (k.block i hi hb).trans (h.block i hi hb)⟩
theorem Fr.of {n b : Nat} {W W' : World} (h : W.grownBy W' (some b)) (hn : n ≤ W.heap.size) : Fr n b W W' :=
  ⟨h.os, h.tape, h.output, h.size, fun k hk hb => h.block k (by omega) (by simpa using hb)⟩
theorem Fr.back {n b : Nat} {W W' : World} (h : Fr n b W W') (hn : W.heap.size = n) : W.grownBy W' (some b) :=
  ⟨h.os, h.tape, h.output, h.size, fun k hk hb => h.block k (by omega) (by simpa using hb)⟩
theorem Fr.own {n b : Nat} {W W' : World} {q : Option Nat} (h : W.grownBy W' q) (hn : n ≤ W.heap.size) (hq : ∀ k, q = some k → n ≤ k) : Fr n b W W' :=
  ⟨h.os, h.tape, h.output, h.size, fun k hk _ => h.block k (by omega) (fun e => by have := hq k e.symm; omega)⟩
theorem Fr.set {n b : Nat} {W W' : World} (h : Fr n b W W') {g i : Nat} (hg : n ≤ g) (x : Value) : Fr n b W (W'.setCell ⟨g, i, none⟩ x) :=
  ⟨h.os, h.tape, h.output, by simpa [World.setCell] using h.size, fun k hk hb => (Below.heap_setCell _ _ _ k (by show k ≠ g; omega)).trans (h.block k hk hb)⟩

/-- What a list, or an object, holds so far: the boxes at n and n + 1, the value at n + 3, rows of the call's own. -/
structure SeqP (b n : Nat) (ar K : Int) (d : Nat) (kv lv : Value) (l : List PV) (F : Nat → Prop) (ks : List ByteArray) (xs : List JV) (W : World) : Prop where
  box : W.heap[n]? = some (.cells #[.pointer (some ⟨b, 0, none⟩)] 60 (0, 0))
  boxa : W.heap[n + 1]? = some (.cells #[.int .i64 ar] 3 (0, 0))
  res : W.heap[n + 2]? = some (.cells #[.int .i64 0, .string ⟨#[]⟩, .slice none 0 0, .slice none 0 0] 25 (0, 0))
  val : W.heap[n + 3]? = some (.cells #[.int .i64 K, .string ⟨#[]⟩, kv, lv] 25 (0, 0))
  keys : W.ownsRow (n + 4) 9 1 kv ks.length (ks.flatMap strC)
  list : W.ownsRow (n + 4) 25 4 lv xs.length (l.flatMap PV.cells)
  len : l.length = xs.length
  each : ∀ (i : Nat) p x, l[i]? = some p → xs[i]? = some x → VAt W F (d + 1) p x
  new : ∀ k, F k → n + 4 ≤ k ∧ k < W.heap.size ∧ some k ≠ kv.ownBlock ∧ some k ≠ lv.ownBlock
  apart : kv.ownBlock = none ∨ kv.ownBlock ≠ lv.ownBlock
def SeqI (b n : Nat) (ar K : Int) (d : Nat) (ks : List ByteArray) (xs : List JV) (W : World) : Prop := ∃ kv lv l F, SeqP b n ar K d kv lv l F ks xs W

section
variable {b n d : Nat} {ar K : Int} {kv lv : Value} {l : List PV} {F : Nat → Prop} {ks : List ByteArray} {xs : List JV} {W W' W3 w5 : World}
theorem SeqP.keep (h : SeqP b n ar K d kv lv l F ks xs W) (hb : b < n) (hG : W.grownBy W' (some b)) : SeqP b n ar K d kv lv l F ks xs W' :=
  { h with
    box := (hG.block _ (blk_lt h.box) (by simp; omega)).trans h.box
    boxa := (hG.block _ (blk_lt h.boxa) (by simp; omega)).trans h.boxa
    res := (hG.block _ (blk_lt h.res) (by simp; omega)).trans h.res
    val := (hG.block _ (blk_lt h.val) (by simp; omega)).trans h.val
    keys := h.keys.kept hG (by
      cases e : kv.ownBlock with
      | none => exact .inl rfl
      | some k => have := h.keys.lt k e; exact .inr (by simp; omega))
    list := h.list.kept hG (by
      cases e : lv.ownBlock with
      | none => exact .inl rfl
      | some k => have := h.list.lt k e; exact .inr (by simp; omega))
    each := fun i p x hp hx => (h.each i p x hp hx).keep (fun g hg => ⟨hg, hG.block g (h.new g hg).2.1 (by have := (h.new g hg).1; simp; omega)⟩)
    new := fun k hk => ⟨(h.new k hk).1, Nat.lt_of_lt_of_le (h.new k hk).2.1 hG.size, (h.new k hk).2.2⟩ }
/-- One part more. -/
theorem SeqP.grow (h : SeqP b n ar K d kv lv l F ks xs W3) {W : World} (hw : n + 4 ≤ W.heap.size) (hWs : W.heap.size ≤ W3.heap.size) {F0 : Nat → Prop} {p : PV} {x : JV} (hV : VAt W3 F0 (d + 1) p x) (hF : ∀ k, F0 k → W.heap.size ≤ k ∧ k < W3.heap.size)
    (hkl : ∀ k, kv.ownBlock = some k → k < W.heap.size) (hll : ∀ k, lv.ownBlock = some k → k < W.heap.size) {h0 c0 : Nat}
    (hrow : w5.ownsRow (n + 4) 25 4 (.slice (some ⟨h0, 0, none⟩) (xs.length + 1) c0) (xs.length + 1) ((l ++ [p]).flatMap PV.cells))
    (hval : w5.heap[n + 3]? = some (.cells #[.int .i64 K, .string ⟨#[]⟩, kv, .slice (some ⟨h0, 0, none⟩) (xs.length + 1) c0] 25 (0, 0)))
    (hsz : W3.heap.size ≤ w5.heap.size) (hoth : ∀ k, k < W3.heap.size → some k ≠ lv.ownBlock → k ≠ h0 → k ≠ n + 3 → w5.heap[k]? = W3.heap[k]?) (hh0 : some h0 = lv.ownBlock ∨ h0 = W3.heap.size) :
    SeqI b n ar K d ks (xs ++ [x]) w5 := by
  have hbase : n + 4 ≤ h0 := by
    rcases hh0 with e | e
    · exact (h.list.lt h0 e.symm).1
    · omega
  have hk0 : ∀ k, kv.ownBlock = some k → k ≠ h0 ∧ k < W3.heap.size ∧ n + 4 ≤ k := fun k e => by
    have h1 := h.keys.lt k e
    refine ⟨?_, h1.2, h1.1⟩
    rcases hh0 with e' | e'
    · rcases h.apart with h2 | h2
      · rw [h2] at e; cases e
      · intro h3; apply h2; rw [e, ← e', h3]
    · omega
  have hlb : ∀ k, k < n + 4 → some k ≠ lv.ownBlock := fun k hk e => by have := h.list.lt k e.symm; omega
  have hkv : ∀ k, kv.ownBlock = some k → some k ≠ lv.ownBlock := fun k e e2 => by
    rcases h.apart with h3 | h3
    · rw [e] at h3; cases h3
    · exact h3 (by rw [e]; exact e2)
  have hl0 : ∀ k, F0 k → some k ≠ lv.ownBlock := fun k hk e => by have := hll k e.symm; have := (hF k hk).1; omega
  have hFh : ∀ g, F0 g → g ≠ h0 := fun g hg => by
    have h1 := hF g hg
    rcases hh0 with e' | e'
    · have := hll h0 e'.symm; omega
    · omega
  have hGh : ∀ g, F g → g ≠ h0 := fun g hg => by
    have h1 := h.new g hg
    rcases hh0 with e' | e'
    · intro h3; exact h1.2.2.2 (by rw [h3]; exact e')
    · omega
  refine ⟨kv, .slice (some ⟨h0, 0, none⟩) (xs.length + 1) c0, l ++ [p], fun k => F k ∨ F0 k, ?_, ?_, ?_, hval, ?_, by simpa using hrow, by simp [h.len], ?_, ?_, ?_⟩
  · exact (hoth n (blk_lt h.box) (hlb _ (by omega)) (by omega) (by omega)).trans h.box
  · exact (hoth (n + 1) (blk_lt h.boxa) (hlb _ (by omega)) (by omega) (by omega)).trans h.boxa
  · exact (hoth (n + 2) (blk_lt h.res) (hlb _ (by omega)) (by omega) (by omega)).trans h.res
  · refine ⟨h.keys.1, ?_⟩
    rcases h.keys.2 with h1 | ⟨g, cap, cur, e, hb1, hg, rest⟩
    · exact .inl h1
    · have h2 := hk0 g (by rw [e]; rfl)
      exact .inr ⟨g, cap, cur, e, hb1, (hoth g h2.2.1 (hkv g (by rw [e]; rfl)) h2.1 (by omega)).trans hg, rest⟩
  · intro i q y hq hy
    rcases Nat.lt_or_ge i l.length with hi | hi
    · rw [List.getElem?_append_left hi] at hq
      rw [List.getElem?_append_left (by rw [← h.len]; exact hi)] at hy
      exact (h.each i q y hq hy).keep (fun g hg => ⟨.inl hg, hoth g (h.new g hg).2.1 (h.new g hg).2.2.2 (hGh g hg) (by have := (h.new g hg).1; omega)⟩)
    · have e : i = l.length := by
        have := (List.getElem?_eq_some_iff.1 hq).1
        simp at this; omega
      subst e
      rw [List.getElem?_concat_length] at hq
      rw [h.len, List.getElem?_concat_length] at hy
      cases hq; cases hy
      exact hV.keep (fun g hg => ⟨.inr hg, hoth g (hF g hg).2 (hl0 g hg) (hFh g hg) (by have := (hF g hg).1; omega)⟩)
  · intro k hk
    rcases hk with hk | hk
    · have h1 := h.new k hk
      refine ⟨h1.1, by omega, h1.2.2.1, ?_⟩
      have := hGh k hk
      simpa [Value.ownBlock] using this
    · have h1 := hF k hk
      refine ⟨by omega, by omega, ?_, ?_⟩
      · intro e; have := hkl k e.symm; omega
      · have := hFh k hk
        simpa [Value.ownBlock] using this
  · cases e : kv.ownBlock with
    | none => exact .inl rfl
    | some k =>
      refine .inr ?_
      have := (hk0 k e).1
      simpa [Value.ownBlock] using this
end
end Go.Proofs.YtmjooghfghmngaaDoor

/- One part more: the world behind the append and both stores, in either order. -/
namespace Go.Proofs.YtmjooghfghmngaaDoor
open Go.RowKit Go.Shelf Go.Lib

theorem flat4 : ∀ l : List PV, (l.flatMap PV.cells).length = l.length * 4
  | [] => rfl
  | y :: l => by rw [List.flatMap_cons, List.length_append, flat4 l, List.length_cons]; show 4 + _ = _; omega
def zeroPV : PV := ⟨0, ⟨#[]⟩, .slice none 0 0, .slice none 0 0⟩
/-- The four stores of an element. -/
def put4 (W : World) (g i : Nat) (x : PV) : World := (((W.setCell ⟨g, i, none⟩ (.int .i64 x.k)).setCell ⟨g, i + 1, none⟩ (.string x.t)).setCell ⟨g, i + 2, none⟩ x.kv).setCell ⟨g, i + 3, none⟩ x.lv
theorem put4_far (W : World) {g i k : Nat} (x : PV) (h : k ≠ g) : (put4 W g i x).heap[k]? = W.heap[k]? := by
  unfold put4
  rw [Below.heap_setCell _ _ _ k (by show k ≠ g; exact h), Below.heap_setCell _ _ _ k (by show k ≠ g; exact h), Below.heap_setCell _ _ _ k (by show k ≠ g; exact h), Below.heap_setCell _ _ _ k (by show k ≠ g; exact h)]
theorem put4_size (W : World) (g i : Nat) (x : PV) : (put4 W g i x).heap.size = W.heap.size := by simp [put4, World.setCell]
theorem put4_below {W W' : World} {B g i : Nat} (h : Below B W W') (hg : B ≤ g) (x : PV) : Below B W (put4 W' g i x) :=
  (((h.setCell (p := ⟨g, i, none⟩) hg _).setCell (p := ⟨g, i + 1, none⟩) hg _).setCell (p := ⟨g, i + 2, none⟩) hg _).setCell (p := ⟨g, i + 3, none⟩) hg _
theorem Fr.below {n b : Nat} {W W' : World} (h : Below n W W') : Fr n b W W' := ⟨h.os, h.tape, h.output, h.size, fun k hk _ => h.block k hk⟩

section
variable {b n d c : Nat} {ar K : Int} {kv lv : Value} {l : List PV} {F F0 : Nat → Prop} {ks : List ByteArray} {xs : List JV} {W W3 W5 : World} {A : Option Addr} {s : List UInt8} {tk : Tk} {p : PV} {x : JV} {h0 c0 : Nat}
/-- Behind the append. -/
structure Apd (b n : Nat) (ar K : Int) (d : Nat) (kv lv : Value) (l : List PV) (F : Nat → Prop) (ks : List ByteArray) (xs : List JV) (W W3 W5 : World) (F0 : Nat → Prop) (p : PV) (x : JV) (h0 c0 : Nat) : Prop where
  seq : SeqP b n ar K d kv lv l F ks xs W3
  room : n + 4 ≤ W.heap.size
  grew : W.heap.size ≤ W3.heap.size
  part : VAt W3 F0 (d + 1) p x
  new : ∀ k, F0 k → W.heap.size ≤ k ∧ k < W3.heap.size
  kl : ∀ k, kv.ownBlock = some k → k < W.heap.size
  ll : ∀ k, lv.ownBlock = some k → k < W.heap.size
  row : W5.ownsRow (n + 4) 25 4 (.slice (some ⟨h0, 0, none⟩) (xs.length + 1) c0) (xs.length + 1) (l.flatMap PV.cells ++ zeroPV.cells)
  grow : W3.grownBy W5 lv.ownBlock
  at0 : some h0 = lv.ownBlock ∨ h0 = W3.heap.size
theorem Apd.base (h : Apd b n ar K d kv lv l F ks xs W W3 W5 F0 p x h0 c0) : n + 4 ≤ h0 := (h.row.lt h0 rfl).1
theorem Apd.lt (h : Apd b n ar K d kv lv l F ks xs W W3 W5 F0 p x h0 c0) : h0 < W5.heap.size := (h.row.lt h0 rfl).2
theorem Apd.below (h : Apd b n ar K d kv lv l F ks xs W W3 W5 F0 p x h0 c0) : Below n W3 W5 :=
  ⟨h.grow.os, h.grow.tape, h.grow.output, h.grow.size, fun k hk => h.grow.block k (by have := h.room; have := h.grew; omega) (fun e => by have := h.seq.list.lt k e.symm; omega)⟩
theorem Apd.cells (h : Apd b n ar K d kv lv l F ks xs W W3 W5 F0 p x h0 c0) :
    (W5.cell? ⟨h0, xs.length * 4, none⟩ = some (.int .i64 0) ∧ W5.cell? ⟨h0, xs.length * 4 + 1, none⟩ = some (.string ⟨#[]⟩) ∧ W5.cell? ⟨h0, xs.length * 4 + 2, none⟩ = some (.slice none 0 0) ∧ W5.cell? ⟨h0, xs.length * 4 + 3, none⟩ = some (.slice none 0 0)) ∧
    (∀ i, W5.frozen? ⟨h0, i, none⟩ = false) := by
  have hfl : (l.flatMap PV.cells).length = xs.length * 4 := by
    rw [← h.seq.len, flat4]
  have hc : ∀ j, j < 4 → W5.cell? ⟨h0, xs.length * 4 + j, none⟩ = zeroPV.cells[j]? := fun j hj => by
    rw [h.row.cellAt _ (by omega), List.getElem?_append_right (by omega), hfl, Nat.add_sub_cancel_left]
  exact ⟨⟨hc 0 (by decide), hc 1 (by decide), hc 2 (by decide), hc 3 (by decide)⟩, fun i => h.row.frozenAt i⟩
/-- First the element, then the slice. -/
theorem Apd.first (h : Apd b n ar K d kv lv l F ks xs W W3 W5 F0 p x h0 c0) :
    SeqI b n ar K d ks (xs ++ [x]) ((put4 W5 h0 (xs.length * 4) p).setCell ⟨n + 3, 3, none⟩ (.slice (some ⟨h0, 0, none⟩) (xs.length + 1) c0)) ∧ Below n W3 ((put4 W5 h0 (xs.length * 4) p).setCell ⟨n + 3, 3, none⟩ (.slice (some ⟨h0, 0, none⟩) (xs.length + 1) c0)) := by
  have hb := h.base
  have hl := own_last (x := p) h.row h.seq.len
  have hv3 : W5.heap[n + 3]? = _ := (h.grow.block (n + 3) (blk_lt h.seq.val) (fun e => by have := h.seq.list.lt _ e.symm; omega)).trans h.seq.val
  have hv4 := (put4_far W5 (g := h0) (i := xs.length * 4) p (show n + 3 ≠ h0 by omega)).trans hv3
  refine ⟨h.seq.grow h.room h.grew h.part h.new h.kl h.ll (hl.1.kept (grew_set (World.grownBy.refl _ (some (n + 3))) 3 _) (.inr (by simp [Value.ownBlock]; omega))) (blk_set hv4 3 _) ?_ ?_ h.at0, (put4_below h.below (by omega) p).setCell (p := ⟨n + 3, 3, none⟩) (by show n ≤ n + 3; omega) _⟩
  · have := h.grow.size
    simp only [World.setCell, put4_size, Array.size_modify]; exact this
  · intro k hk h1 h2 h3
    rw [Below.heap_setCell _ _ _ k (by show k ≠ n + 3; exact h3), put4_far W5 p h2]
    exact h.grow.block k hk h1
/-- First the slice, then the element. -/
theorem Apd.second (h : Apd b n ar K d kv lv l F ks xs W W3 W5 F0 p x h0 c0) :
    SeqI b n ar K d ks (xs ++ [x]) (put4 (W5.setCell ⟨n + 3, 3, none⟩ (.slice (some ⟨h0, 0, none⟩) (xs.length + 1) c0)) h0 (xs.length * 4) p) ∧ Below n W3 (put4 (W5.setCell ⟨n + 3, 3, none⟩ (.slice (some ⟨h0, 0, none⟩) (xs.length + 1) c0)) h0 (xs.length * 4) p) := by
  have hb := h.base
  have hr := h.row.kept (grew_set (World.grownBy.refl W5 (some (n + 3))) 3 (.slice (some ⟨h0, 0, none⟩) (xs.length + 1) c0)) (.inr (by simp [Value.ownBlock]; omega))
  have hl := own_last (x := p) hr h.seq.len
  have hv3 : W5.heap[n + 3]? = _ := (h.grow.block (n + 3) (blk_lt h.seq.val) (fun e => by have := h.seq.list.lt _ e.symm; omega)).trans h.seq.val
  have hv4 := (put4_far (W5.setCell ⟨n + 3, 3, none⟩ (.slice (some ⟨h0, 0, none⟩) (xs.length + 1) c0)) (g := h0) (i := xs.length * 4) p (show n + 3 ≠ h0 by omega)).trans (blk_set hv3 3 _)
  refine ⟨h.seq.grow h.room h.grew h.part h.new h.kl h.ll hl.1 hv4 ?_ ?_ h.at0, put4_below (h.below.setCell (p := ⟨n + 3, 3, none⟩) (by show n ≤ n + 3; omega) _) (by omega) p⟩
  · have := h.grow.size
    rw [put4_size]
    simp only [World.setCell, Array.size_modify]; exact this
  · intro k hk h1 h2 h3
    rw [put4_far _ p h2, Below.heap_setCell _ _ _ k (by show k ≠ n + 3; exact h3)]
    exact h.grow.block k hk h1
end
/-- What became of one part. -/
def PartOut (n b : Nat) (A : Option Addr) (c : Nat) (s : List UInt8) (ar K : Int) (d : Nat) (r : RR (List ByteArray × JV × Tk)) (ks : List ByteArray) (xs : List JV) (W : World) (e : Ending) (w' : World) : Prop :=
  Fr n b W w' ∧ ((∃ y, r = .ok y ∧ e = .returned (.tuple #[]) ∧ Rd w' b A c s y.2.2.k (y.2.2.a : Nat) y.2.2.t y.2.2.q ∧ SeqI b n ar K d (ks ++ y.1) (xs ++ [y.2.1]) w') ∨ (∃ (a : Nat) (e' : Int), r = .error (a, e') ∧ e = thrown a e'))
end Go.Proofs.YtmjooghfghmngaaDoor
