/- Operations of a drawn region one by one; a row of values that grows by one. -/
import Derived.Test.YtjhnmedcmikdpaaDoorJVal
namespace Go.Proofs.YtjhnmedcmikdpaaDoor
open Go.RowKit Go.Shelf Go.Lib


/- Short names for what lists and arrays do. -/
theorem jA {α : Type} {xs : List α} {i : Nat} (h : i < xs.toArray.size) : xs.toArray[i] = xs[i]'(by simpa using h) := rfl
theorem jB {α : Type} {a : α} {u : List α} (h : 0 < (a :: u).length) : (a :: u)[0] = a := rfl
theorem jC {α : Type} {a : α} {u : List α} {i : Nat} (h : i + 1 < (a :: u).length) : (a :: u)[i + 1] = u[i]'(by simpa using h) := rfl
theorem jD {α : Type} {xs : List α} {i : Nat} {a : α} : xs.toArray.setIfInBounds i a = (xs.set i a).toArray := List.setIfInBounds_toArray ..
theorem jE {α : Type} {a b : α} {u : List α} : (a :: u).set 0 b = b :: u := rfl
theorem jF {α : Type} {a b : α} {u : List α} {n : Nat} : (a :: u).set (n + 1) b = a :: u.set n b := rfl
section
variable {P : Program} {ops : Array Oper} {Q : Exit → Act → World → Prop} {md : Region.Mode} {S : World → Prop}
/-- An operation that isn't wanted is passed over: it may come up now. -/
theorem takeNone {i : Nat} {oi : Oper} {fuel : Nat} {listed : Array Bool} {a : Act} {w : World} (hr : (Region.ready md ops listed).contains i = true) (hi : ops[i]? = some oi)
    (hw : Region.wanted oi (yielded ops a.tmps) = false) (hf : Region.free md ops listed i = true) (hs : Region.noSelect ops = true)
    (hQ : ∀ c a w, Q (.panic c) (a.put oi.dst undef) w → Q (.panic c) a w) (hS : S w)
    (h : wpAnyH P md ops Q S fuel (listed.setIfInBounds i true) (a.put oi.dst undef) w) : wpAnyH P md ops Q S (fuel + 1) listed a w :=
  wpAnyH_take hi hs hf hr hQ (.inr ⟨hw, rfl⟩) hS h
/-- An operation that yields its value under S is taken first. -/
theorem takeSome {i : Nat} {oi : Oper} {v : Value} {fuel : Nat} {listed : Array Bool} {a : Act} {w : World} (hr : (Region.ready md ops listed).contains i = true) (hi : ops[i]? = some oi)
    (hw : Region.wanted oi (yielded ops a.tmps) = true) (hf : Region.free md ops listed i = true) (hs : Region.noSelect ops = true)
    (hQ : ∀ c a w, Q (.panic c) (a.put oi.dst v) w → Q (.panic c) a w) (hS : S w) (hy : ∀ w, S w → (execOp a.eval oi).run P w = .ok (.value v) w)
    (h : wpAnyH P md ops Q S fuel (listed.setIfInBounds i true) (a.put oi.dst v) w) : wpAnyH P md ops Q S (fuel + 1) listed a w :=
  wpAnyH_take hi hs hf hr hQ (.inl ⟨hw, hy⟩) hS h
theorem tZ (i : Nat) {oi : Oper} {v : Value} {fuel : Nat} {listed : Array Bool} {a a' : Act} {w : World}
    (h : wpAnyH P md ops Q S fuel (listed.setIfInBounds i true) a' w)
    (hr : (Region.ready md ops listed).contains i = true := by decide +kernel) (hi : ops[i]? = some oi := by rfl) (hw : Region.wanted oi (yielded ops a.tmps) = true := by rfl)
    (hf : Region.free md ops listed i = true := by decide +kernel) (hs : Region.noSelect ops = true := by decide +kernel) (hQ : ∀ c a w, Q (.panic c) (a.put oi.dst v) w → Q (.panic c) a w := by exact fun _ _ _ h => h) (hS : S w := by assumption)
    (hy : ∀ w, S w → (execOp a.eval oi).run P w = .ok (.value v) w := by intro w0 hSw; (try dsimp only at hSw); go_simp; (try (with_reducible rfl)); done) (ha : a.put oi.dst v = a' := by (try simp only [Act.put, jA, jB, jC, jD, jE, jF]) <;> rfl) : wpAnyH P md ops Q S (fuel + 1) listed a w :=
  wpAnyH_take hi hs hf hr hQ (.inl ⟨hw, hy⟩) hS (ha ▸ h)
theorem pZ (i : Nat) {oi : Oper} {fuel : Nat} {listed : Array Bool} {a a' : Act} {w : World}
    (h : wpAnyH P md ops Q S fuel (listed.setIfInBounds i true) a' w)
    (hr : (Region.ready md ops listed).contains i = true := by decide +kernel) (hi : ops[i]? = some oi := by rfl) (hw : Region.wanted oi (yielded ops a.tmps) = false := by rfl)
    (hf : Region.free md ops listed i = true := by decide +kernel) (hs : Region.noSelect ops = true := by decide +kernel) (hQ : ∀ c a w, Q (.panic c) (a.put oi.dst undef) w → Q (.panic c) a w := by exact fun _ _ _ h => h) (hS : S w := by assumption) (ha : a.put oi.dst undef = a' := by (try simp only [Act.put, jA, jB, jC, jD, jE, jF]) <;> rfl) : wpAnyH P md ops Q S (fuel + 1) listed a w :=
  wpAnyH_take hi hs hf hr hQ (.inr ⟨hw, rfl⟩) hS (ha ▸ h)
end
theorem wanted_of {ops : Array Oper} {o : Oper} {a : Act} (hgd : o.guard = none) : Region.wanted o (yielded ops a.tmps) = true := by simp [Region.wanted, hgd]

/-- A row of the call's own. -/
structure Kind {α : Type} (T : TypeId) (enc : α → List Value) (n bytes : Nat) : Prop where
  len : ∀ a, (enc a).length = n
  one : ∀ a, ∀ u ∈ enc a, u.oneCell' = true
  pos : 0 < n
  info : ∃ i z, Tryd.prog.info? T = some i ∧ i.zero = some z ∧ i.size = n ∧ i.bytes = bytes ∧ z.cells.size = n
theorem Kind.mk' {α : Type} {T : TypeId} {enc : α → List Value} {n bytes : Nat} {z : Value} (hl : ∀ a, (enc a).length = n) (h1 : ∀ a, ∀ u ∈ enc a, u.oneCell' = true) (hp : 0 < n) (hi : (Tryd.prog.info? T).map (fun i => (i.zero, i.size, i.bytes)) = some (some z, n, bytes)) (hz : z.cells.size = n) : Kind T enc n bytes := by
  obtain ⟨i, h2, h3, h4, h5⟩ := info_parts hi
  exact ⟨hl, h1, hp, i, z, h2, h3, h4, h5, hz⟩
def OkPV (x : PV) : Prop := x.kv.oneCell' = true ∧ x.lv.oneCell' = true
def strC (t : ByteArray) : List Value := [.string t]
theorem kindS : Kind 9 strC 1 16 := Kind.mk' (z := .string ⟨#[]⟩) (fun _ => rfl) (fun a u hu => by obtain rfl := List.mem_singleton.1 hu; rfl) (by decide) (by kernel_rfl) rfl

section
variable {W : World} {B : Nat} {ops : Array Oper} {o : Oper} {a : Act} {KK : Act → World → Prop} {Q : Exit → Act → World → Prop} {E : Prop}
theorem step_append_row (n bytes : Nat) (T TS : TypeId) (i : TypeInfo) (z : Value) (hT : Tryd.prog.underlying TS = some (.slice T)) (hi : Tryd.prog.info? T = some i) (hz0 : i.zero = some z) (hz1 : i.size = n) (hz2 : i.bytes = bytes) (hz3 : z.cells.size = n) (hn0 : 0 < n)
    {v : Value} {m : Nat} {xs : List Value} (hown : W.ownsRow B T n v m xs) (hB : B ≤ W.heap.size) (new : List Value) (hnl : new.length = n) (hn1 : ∀ u ∈ new, u.oneCell' = true) (g : Nat) (c : Nat) (hnew : ∀ j u, new[j]? = some u → W.cell? ⟨g, j, none⟩ = some u) (hm : m + 1 ≤ maxLen) (hmb : (m + 1) * bytes ≤ 140737488355328)
    (hgd : o.guard = none) (s y : Operand) (ho : o.op = .call { callee := .builtin .append, args := #[s, y], argTypes := #[TS, TS] })
    (hs : a.eval s = v) (hx : a.eval y = .slice (some ⟨g, 0, none⟩) 1 c)
    (h : ∀ (h0 c0 : Nat) (w' : World), w'.ownsRow B T n (.slice (some ⟨h0, 0, none⟩) (m + 1) c0) (m + 1) (xs ++ new) → W.grownBy w' v.ownBlock → (some h0 = v.ownBlock ∨ h0 = W.heap.size) → KK (a.put o.dst (.slice (some ⟨h0, 0, none⟩) (m + 1) c0)) w') :
    if Region.wanted o (yielded ops a.tmps) = true then Oper.wp Tryd.prog o a W KK Q else E := by
  rw [if_pos (wanted_of hgd)]
  obtain ⟨v', w', hr, h2, h3, h4, h5⟩ := run_append_own_at (P := Tryd.prog) W B TS o.type T i z n bytes hT hi hz0 hz1 hz2 hz3 hn0 v m xs hown ⟨g, 0, none⟩ 1 c new (by rw [hnl]; simp) (fun j u hu => by
    have := hnew j u hu
    rwa [show (⟨g, 0, none⟩ : Addr).add j = ⟨g, j, none⟩ by by_cases hj0 : j = 0 <;> simp [Addr.add, hj0]]) hn1 hm hmb hB
  obtain ⟨h0, c0, rfl⟩ : ∃ h0 c0, v' = .slice (some ⟨h0, 0, none⟩) (m + 1) c0 := by
    rcases h2.2 with ⟨rfl, e⟩ | ⟨h0, c0, cur, rfl, _⟩
    · omega
    · exact ⟨h0, c0, rfl⟩
  unfold Oper.wp execOp
  simp only [ho, resolve, invoke, builtin, Sem.run_bind, Sem.run_pure, Result.andThen_ok, List.map_toArray, List.map_cons, List.map_nil, hs, hx, hr]
  refine h _ _ _ h2 h3 ?_
  rcases h5 with h5 | h5
  · exact .inl h5
  · exact .inr (Option.some.inj h5)
end

/-- The last element of a row of values, stored anew. -/
theorem own_last {W : World} {B g c m : Nat} {l : List PV} {z x : PV} (h : W.ownsRow B 25 4 (.slice (some ⟨g, 0, none⟩) (m + 1) c) (m + 1) (l.flatMap PV.cells ++ z.cells)) (hl : l.length = m) :
    ((((W.setCell ⟨g, m * 4, none⟩ (.int .i64 x.k)).setCell ⟨g, m * 4 + 1, none⟩ (.string x.t)).setCell ⟨g, m * 4 + 2, none⟩ x.kv).setCell ⟨g, m * 4 + 3, none⟩ x.lv).ownsRow B 25 4 (.slice (some ⟨g, 0, none⟩) (m + 1) c) (m + 1) ((l ++ [x]).flatMap PV.cells) ∧
    W.grownBy ((((W.setCell ⟨g, m * 4, none⟩ (.int .i64 x.k)).setCell ⟨g, m * 4 + 1, none⟩ (.string x.t)).setCell ⟨g, m * 4 + 2, none⟩ x.kv).setCell ⟨g, m * 4 + 3, none⟩ x.lv) (some g) := by
  have hfl : (l.flatMap PV.cells).length = m * 4 := by
    rw [← hl]
    clear h hl
    induction l with
    | nil => rfl
    | cons y l ih => rw [List.flatMap_cons, List.length_append, ih, List.length_cons]; show 4 + _ = _; omega
  obtain ⟨h1, g1⟩ := h.stored (m * 4) (.int .i64 x.k)
  obtain ⟨h2, g2⟩ := h1.stored (m * 4 + 1) (.string x.t)
  obtain ⟨h3, g3⟩ := h2.stored (m * 4 + 2) x.kv
  obtain ⟨h4, g4⟩ := h3.stored (m * 4 + 3) x.lv
  refine ⟨?_, ((g1.trans g2).trans g3).trans g4⟩
  have e : ((((l.flatMap PV.cells ++ z.cells).set (m * 4) (.int .i64 x.k)).set (m * 4 + 1) (.string x.t)).set (m * 4 + 2) x.kv).set (m * 4 + 3) x.lv = (l ++ [x]).flatMap PV.cells := by
    rw [List.set_append_right _ _ (by omega), List.set_append_right _ _ (by omega), List.set_append_right _ _ (by omega), List.set_append_right _ _ (by omega), hfl]
    rw [show m * 4 - m * 4 = 0 by omega, show m * 4 + 1 - m * 4 = 1 by omega, show m * 4 + 2 - m * 4 = 2 by omega, show m * 4 + 3 - m * 4 = 3 by omega]
    rw [List.flatMap_append]
    rfl
  rw [e] at h4
  exact h4
end Go.Proofs.YtjhnmedcmikdpaaDoor
