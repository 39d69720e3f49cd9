/- Values in memory. -/
import Derived.Test.YtmjooghfghmngaaDoorJSpec
import Derived.Laws.OwnMore
namespace Go.Proofs.YtmjooghfghmngaaDoor
open Go.RowKit Go.Shelf Go.Lib

/-- The four cells of a value: kind, text, keys, list. -/
structure PV where
  k : Int
  t : ByteArray
  kv : Value
  lv : Value
def PV.cells (x : PV) : List Value := [.int .i64 x.k, .string x.t, x.kv, x.lv]
def PV.val (x : PV) : Value := .agg #[.int .i64 x.k, .string x.t, x.kv, x.lv]

/-- A slice of strings in blocks of F. -/
def StrsAt (W : World) (F : Nat → Prop) (v : Value) (ks : List ByteArray) : Prop :=
  ∃ A c, v = .slice A ks.length c ∧ ks.length ≤ c ∧ ∀ i t, ks[i]? = some t → ∃ g o, A = some ⟨g, o, none⟩ ∧ F g ∧ W.cell? ⟨g, o + i, none⟩ = some (.string t)
/-- A value, at most so deep, all of it in blocks of F. -/
def VAt (W : World) (F : Nat → Prop) : Nat → PV → JV → Prop
  | 0, _, _ => False
  | d + 1, p, .mk k t ks xs => k = p.k ∧ t = p.t ∧ StrsAt W F p.kv ks ∧ ∃ A c, p.lv = .slice A xs.length c ∧ xs.length ≤ c ∧ ∀ i x, xs[i]? = some x → ∃ g o y, A = some ⟨g, o, none⟩ ∧ F g ∧
      W.cell? ⟨g, o + i * 4, none⟩ = some (.int .i64 y.k) ∧ W.cell? ⟨g, o + i * 4 + 1, none⟩ = some (.string y.t) ∧ W.cell? ⟨g, o + i * 4 + 2, none⟩ = some y.kv ∧ W.cell? ⟨g, o + i * 4 + 3, none⟩ = some y.lv ∧ VAt W F d y x

theorem cell_keep {W W' : World} {g : Nat} (h : W'.heap[g]? = W.heap[g]?) (i : Nat) : W'.cell? ⟨g, i, none⟩ = W.cell? ⟨g, i, none⟩ := World.cell?_of_block (a := ⟨g, i, none⟩) h

theorem StrsAt.keep {W W' : World} {F F' : Nat → Prop} {v : Value} {ks : List ByteArray} (h : StrsAt W F v ks) (hF : ∀ g, F g → F' g ∧ W'.heap[g]? = W.heap[g]?) : StrsAt W' F' v ks := by
  obtain ⟨A, c, rfl, hc, hh⟩ := h
  refine ⟨A, c, rfl, hc, fun i t ht => ?_⟩
  obtain ⟨g, o, e, hf, hcell⟩ := hh i t ht
  exact ⟨g, o, e, (hF g hf).1, (cell_keep (hF g hf).2 _).trans hcell⟩
theorem VAt.keep {W W' : World} {F F' : Nat → Prop} (hF : ∀ g, F g → F' g ∧ W'.heap[g]? = W.heap[g]?) : ∀ {d : Nat} {p : PV} {x : JV}, VAt W F d p x → VAt W' F' d p x
  | 0, _, _, h => h
  | d + 1, p, .mk k t ks xs, h => by
    obtain ⟨h1, h2, h3, A, c, h4, hc, h5⟩ := h
    refine ⟨h1, h2, h3.keep hF, A, c, h4, hc, fun i x hx => ?_⟩
    obtain ⟨g, o, y, e, hf, c0, c1, c2, c3, hy⟩ := h5 i x hx
    have hk := (hF g hf).2
    exact ⟨g, o, y, e, (hF g hf).1, (cell_keep hk _).trans c0, (cell_keep hk _).trans c1, (cell_keep hk _).trans c2, (cell_keep hk _).trans c3, VAt.keep hF hy⟩
theorem VAt.deeper {W : World} {F : Nat → Prop} : ∀ {d : Nat} {p : PV} {x : JV}, VAt W F d p x → VAt W F (d + 1) p x
  | 0, _, _, h => h.elim
  | d + 1, p, .mk k t ks xs, h => by
    obtain ⟨h1, h2, h3, A, c, h4, hc, h5⟩ := h
    refine ⟨h1, h2, h3, A, c, h4, hc, fun i x hx => ?_⟩
    obtain ⟨g, o, y, e, hf, c0, c1, c2, c3, hy⟩ := h5 i x hx
    exact ⟨g, o, y, e, hf, c0, c1, c2, c3, VAt.deeper hy⟩

theorem VAt.slices {W : World} {F : Nat → Prop} {d : Nat} {k : Int} {t : ByteArray} {kv lv : Value} {x : JV} (h : VAt W F (d + 1) ⟨k, t, kv, lv⟩ x) : ∃ A1 n1 c1 A2 n2 c2, kv = .slice A1 n1 c1 ∧ lv = .slice A2 n2 c2 := by
  obtain ⟨k', t', ks, xs⟩ := x
  obtain ⟨_, _, ⟨A1, c1, e1, _⟩, A2, c2, e2, _⟩ := h
  exact ⟨A1, ks.length, c1, A2, xs.length, c2, e1, e2⟩

/-- How a value is read. -/
def OutV (b : Nat) (A : Option Addr) (c : Nat) (s : List UInt8) (d : Nat) (r : RR (JV × Tk)) (w : World) (e : Ending) (w' : World) : Prop :=
  w.grownBy w' (some b) ∧ ((∃ p x tk F, r = .ok (x, tk) ∧ e = .returned (PV.val p) ∧ Rd w' b A c s tk.k (tk.a : Nat) tk.t tk.q ∧ VAt w' F (d + 1) p x ∧ ∀ k, F k → w.heap.size ≤ k ∧ k < w'.heap.size) ∨ (∃ (a : Nat) (e' : Int), r = .error (a, e') ∧ e = thrown a e'))
section
variable {b : Nat} {A : Option Addr} {c : Nat} {s : List UInt8} {d : Nat} {r : RR (JV × Tk)} {w w' : World}
theorem OutV.yes {p : PV} {x : JV} {tk : Tk} {F : Nat → Prop} (hr : r = .ok (x, tk)) (hR : Rd w' b A c s tk.k (tk.a : Nat) tk.t tk.q) (hV : VAt w' F (d + 1) p x) (hF : ∀ k, F k → w.heap.size ≤ k ∧ k < w'.heap.size) (hG : w.grownBy w' (some b)) : OutV b A c s d r w (.returned (PV.val p)) w' :=
  ⟨hG, .inl ⟨p, x, tk, F, hr, rfl, hR, hV, hF⟩⟩
theorem OutV.no {a : Nat} {e' : Int} (hr : r = .error (a, e')) (hG : w.grownBy w' (some b)) : OutV b A c s d r w (thrown a e') w' := ⟨hG, .inr ⟨a, e', hr, rfl⟩⟩
end
theorem OutT.tok {b : Nat} {A : Option Addr} {c : Nat} {s : List UInt8} {p : Nat} {w : World} {e : Ending} {w' : World} (h : OutT b A c s (tokL s p) w e w') :
    w.grownBy w' (some b) ∧ ((∃ tk, tokN s p = .ok tk ∧ e = .returned (.tuple #[]) ∧ Rd w' b A c s tk.k (tk.a : Nat) tk.t tk.q) ∨ (∃ a : Nat, tokN s p = .error (a, 11) ∧ e = thrown a 11)) := by
  obtain ⟨hG, ⟨k, a, t, q, hr, he, hR⟩ | ⟨a, hr, he⟩⟩ := h
  · exact ⟨hG, .inl ⟨⟨k, a, t, q⟩, by unfold tokN; rw [hr], he, hR⟩⟩
  · exact ⟨hG, .inr ⟨a, by unfold tokN; rw [hr], he⟩⟩
end Go.Proofs.YtmjooghfghmngaaDoor
