/- Layer pager, the laws' own: a Pager beside rows of the law's own. -/
import Derived.Test.YtfjiceoagenfnaaDoorPAns
import Derived.Test.YtfjiceoagenfnaaDoorPInv2
set_option maxRecDepth 20000
namespace Go.Proofs.YtfjiceoagenfnaaDoor
open Go.RowKit Go.Lib Go.ChangeMaps Go.MapKept

/-- A Pager as a law goes on with it, and blocks of the law's own beside it. -/
structure Lw (W0 W : World) (T : Nat → Prop) (st : DS) (ps : PS) (gd g gs : Nat) (R : Nat → Prop) : Prop where
  below : Below W0.heap.size W0 W
  hg : W0.heap.size ≤ g
  hgs : W0.heap.size ≤ gs
  hT : ∀ k, T k → W0.heap.size ≤ k
  bo : Bo W T st ps gd g gs
  ap : ∀ k, R k → W0.heap.size ≤ k ∧ k < W.heap.size ∧ ¬ T k ∧ k ≠ g ∧ k ≠ gs
section
variable {W0 W W' : World} {T : Nat → Prop} {st st' : DS} {ps ps' : PS} {gd g gs : Nat} {R R' : Nat → Prop}
theorem Lw.off (h : Lw W0 W T st ps gd g gs R) {k : Nat} (hk : R k) : ¬ FB W T g gs k := fun e => by
  obtain ⟨-, -, a, b, c⟩ := h.ap k hk
  rcases e with e | e | e
  · exact a e.1
  · exact b e
  · exact c e
theorem Lw.step (h : Lw W0 W T st ps gd g gs R) (hb : BoTo W W' T st' ps' gd g gs) : ∃ T', Lw W0 W' T' st' ps' gd g gs R ∧ ∀ k, R k → W'.heap[k]? = W.heap[k]? := by
  obtain ⟨f, T', e, b⟩ := hb
  refine ⟨T', ⟨f.below h.below h.below.size (fun k e2 => ?_), h.hg, h.hgs, fun k hk => (e.2 k hk).elim (h.hT k) (fun h2 => by have := h.below.size; omega), b, fun k hk => ?_⟩, fun k hk => f.2 k (h.ap k hk).2.1 (h.off hk)⟩
  · rcases e2 with e2 | e2 | e2
    · exact h.hT k e2.1
    · have := h.hg; omega
    · have := h.hgs; omega
  · obtain ⟨a0, a1, a2, a3, a4⟩ := h.ap k hk
    exact ⟨a0, Nat.lt_of_lt_of_le a1 f.1.size, fun e2 => (e.2 k e2).elim a2 (fun e3 => by omega), a3, a4⟩
theorem Lw.grow (h : Lw W0 W T st ps gd g gs R) (hb : Below W.heap.size W W') : Lw W0 W' T st ps gd g gs R :=
  ⟨h.below.trans (hb.mono h.below.size), h.hg, h.hgs, h.hT, h.bo.grow hb, fun k hk => by
    obtain ⟨a0, a1, a2, a3, a4⟩ := h.ap k hk
    exact ⟨a0, Nat.lt_of_lt_of_le a1 hb.size, a2, a3, a4⟩⟩
/-- The rows alone turned, or new ones came. -/
theorem Lw.rows (h : Lw W0 W T st ps gd g gs R) (hf : Fr R W W') (hR : ∀ k, R' k → R k ∨ (W.heap.size ≤ k ∧ k < W'.heap.size)) : Lw W0 W' T st ps gd g gs R' := by
  obtain ⟨low, hp⟩ := h.bo.pg
  have ht := h.bo.dk.ter
  have hl := h.bo.lt
  refine ⟨hf.below h.below h.below.size (fun k e => (h.ap k e).1), h.hg, h.hgs, h.hT, ⟨h.bo.dk.fr hf (fun k hk e => (h.ap k e).2.2.1 hk), ⟨low, hp.fr hf (fun e => (h.ap g e).2.2.2.1 rfl) (fun e => (h.ap gs e).2.2.2.2 rfl)⟩, h.bo.tg, h.bo.ts⟩, fun k hk => ?_⟩
  rcases hR k hk with e | ⟨e1, e2⟩
  · obtain ⟨a0, a1, a2, a3, a4⟩ := h.ap k e
    exact ⟨a0, Nat.lt_of_lt_of_le a1 hf.1.size, a2, a3, a4⟩
  · exact ⟨Nat.le_trans h.below.size e1, e2, fun e3 => by have := ht k e3; omega, by omega, by omega⟩
theorem Lw.env (h : Lw W0 W T st ps gd g gs R) (hE : Env W0) : Env W := hE.on h.below
theorem Lw.four (h : Lw W0 W T st ps gd g gs R) (hE : Env W0) : ¬ T 0 := fun e => by
  have := h.hT _ e; have := hE.2; omega
theorem Lw.of (h : Rn W0 W st ps gd g gs) : ∃ T, Lw W0 W T st ps gd g gs (fun _ => False) := by
  obtain ⟨a, b, c, T, d, e⟩ := h
  exact ⟨T, a, b, c, d, e, fun k hk => hk.elim⟩
end
theorem Inv.start {n : Nat} (h : 4 ≤ n) (h2 : n ≤ 65536) : Inv (newD n) ⟨List.replicate n 0, 0, 0⟩ ⟨0, 0, []⟩ [] [] := Saved.inv (st := newD n) (s := ⟨0, 0, []⟩) ⟨RootIs.new n, fun x hx => (by cases hx), List.nodup_nil⟩ rfl rfl ⟨h, h2⟩
/-- Ints in a row of the law's own. -/
def encI (i : Int) : List Value := [.int .i64 i]
theorem kindI : Kind 3 encI 1 8 := Kind.mk' (z := .int .i64 0) (fun _ => rfl) (fun a u hu => by
  simp only [encI, List.mem_cons, List.not_mem_nil, or_false] at hu
  rw [hu]; rfl) (by decide) (by kernel_rfl) rfl
section
variable {α : Type} {E : TypeId} {enc : α → List Value} {n bytes : Nat}
/-- A row of the law's own, of any kind. -/
def RowK (W : World) (base : Nat) (E : TypeId) (enc : α → List Value) (n : Nat) (v : Value) (l : List α) : Prop := W.ownsRow base E n v l.length (l.flatMap enc)
theorem RowK.nil (W : World) (base : Nat) : RowK W base E enc n (.slice none 0 0) ([] : List α) := World.ownsRow_nil _ _ _ _
theorem RowK.on {W W' : World} {base : Nat} {v : Value} {l : List α} (h : RowK W base E enc n v l) (hs : ∀ k, v.ownBlock = some k → W'.heap[k]? = W.heap[k]?) : RowK W' base E enc n v l := by
  refine ⟨h.1, ?_⟩
  rcases h.2 with h0 | ⟨g, cap, cur, rfl, hg, hh, hrest⟩
  · exact .inl h0
  · exact .inr ⟨g, cap, cur, rfl, hg, (hs g rfl).trans hh, hrest⟩
theorem RowK.shape {W : World} {base : Nat} {v : Value} {l : List α} (h : RowK W base E enc n v l) : ∃ A c, v = .slice A l.length c ∧ l.length ≤ c := by
  rcases h.2 with ⟨rfl, h0⟩ | ⟨g, cap, cur, rfl, -, -, hc, -⟩
  · exact ⟨none, 0, by rw [h0], by omega⟩
  · exact ⟨_, _, rfl, hc⟩
theorem RowK.get (K : Kind E enc n bytes) {W : World} {base : Nat} {A : Option Addr} {c : Nat} {l : List α} (h : RowK W base E enc n (.slice A l.length c) l) (h0 : 0 < l.length) : ∃ b, A = some ⟨b, 0, none⟩ ∧ base ≤ b ∧ b < W.heap.size ∧ ∀ (i : Nat) (hi : i < l.length) (j : Nat) (u : Value), (enc l[i])[j]? = some u → j < n → W.cell? ⟨b, i * n + j, none⟩ = some u := by
  rcases h.2 with ⟨e, h1⟩ | ⟨g, cap, cur, e, hg, hh, -⟩
  · omega
  · obtain ⟨rfl, -, -⟩ := Value.slice.inj e
    refine ⟨g, rfl, hg, blk_lt hh, fun i hi j u hu hj => ?_⟩
    have hc := h.cells (g := g) rfl
    have := flat_get K.len l i l[i] j (List.getElem?_eq_getElem hi) hj
    have := hc _ _ (this.trans hu)
    rwa [add_off] at this
/-- One more behind a row. -/
theorem append_rowK (K : Kind E enc n bytes) {t : TypeId} (ht : Tryd.prog.underlying t = some (.slice E)) {W : World} {base : Nat} {v : Value} {l : List α} (h : RowK W base E enc n v l) (hb : base ≤ W.heap.size) (x : α) {g : Nat} {t' : TypeId} {cs : Array Value} (hg : W.heap[g]? = some (.cells cs t' (0, 0))) (hcs : cs.toList = enc x) (hn : l.length + 1 ≤ 1000000) (hby : bytes ≤ 64)
    {ops : Array Oper} {rest : List Oper} {o : Oper} {a : Act} {Q : Exit → Act → World → Prop} (hgd : o.guard = none) (s y : Operand)
    (ho : o.op = .call { callee := .builtin .append, args := #[s, y], argTypes := #[t, t] })
    (hs : a.eval s = v) (c : Nat) (hy : a.eval y = .slice (some ⟨g, 0, none⟩) 1 c)
    (hK : ∀ v' w', RowK w' base E enc n v' (l ++ [x]) → W.grownBy w' v.ownBlock → (∀ j, v'.ownBlock = some j → v.ownBlock = some j ∨ (W.heap.size ≤ j ∧ j < w'.heap.size)) → wpList Tryd.prog ops Q rest (a.put o.dst v') w') :
    wpList Tryd.prog ops Q (o :: rest) a W := by
  obtain ⟨i0, z, hi, hz0, hz1, hz2, hz3⟩ := K.info
  refine wpList_append_own_at _ hgd s y t ho base E i0 z n bytes ht hi hz0 hz1 hz2 hz3 K.pos v l.length (l.flatMap enc) hs h ⟨g, 0, none⟩ 1 c (enc x) hy (by rw [K.len]; omega) (fun j u hu => by rw [add_off, blk_cell hg, ← hu, ← hcs, Array.getElem?_toList]) (K.one x) (by unfold maxLen; omega) ?_ hb ?_
  · have : (l.length + 1) * bytes ≤ 1000000 * 64 := Nat.mul_le_mul hn hby
    omega
  · intro v' w' hown hgrow h3 hat
    refine hK v' w' ?_ hgrow (fun j e => ?_)
    · show w'.ownsRow base E n v' (l ++ [x]).length ((l ++ [x]).flatMap enc)
      rw [List.length_append, List.flatMap_append, List.flatMap_cons, List.flatMap_nil, List.append_nil]
      exact hown
    · rcases hat with h1 | h1
      · exact .inl (h1.symm.trans e)
      · obtain rfl := Option.some.inj (h1.symm.trans e)
        exact .inr ⟨Nat.le_refl _, (hown.lt _ h1).2⟩
end
end Go.Proofs.YtfjiceoagenfnaaDoor
