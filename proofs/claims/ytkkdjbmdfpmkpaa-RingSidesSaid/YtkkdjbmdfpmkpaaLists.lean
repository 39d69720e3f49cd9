/- A slice of points of the call's own, to which points are appended. -/
import Derived.Test.YtkkdjbmdfpmkpaaGeo3
import Derived.OwnWalk
import Derived.Deep.SlicePairs
import Derived.WalkKit
namespace Go.Proofs.Ytkkdjbmdfpmkpaa
open Go.RowKit

/-- The cells of a list of points. -/
def flatP : List (Int × Int) → List Value
  | [] => []
  | p :: ps => .int .i64 p.1 :: .int .i64 p.2 :: flatP ps
theorem flatP_length : ∀ ps, (flatP ps).length = ps.length * 2
  | [] => rfl
  | p :: ps => by simp only [flatP, List.length_cons, flatP_length ps]; omega
theorem flatP_snoc : ∀ (ps : List (Int × Int)) (p : Int × Int), flatP (ps ++ [p]) = flatP ps ++ [.int .i64 p.1, .int .i64 p.2]
  | [], p => rfl
  | q :: ps, p => by simp only [List.cons_append, flatP, flatP_snoc ps p]
theorem flatP_get : ∀ (ps : List (Int × Int)) (k : Nat), (flatP ps)[k * 2]? = (ps[k]?).map (fun p => .int .i64 p.1) ∧ (flatP ps)[k * 2 + 1]? = (ps[k]?).map (fun p => .int .i64 p.2)
  | [], k => by simp [flatP]
  | p :: ps, 0 => by simp [flatP]
  | p :: ps, k + 1 => by
    have h := flatP_get ps k
    rw [show (k + 1) * 2 = k * 2 + 1 + 1 by omega]
    simpa [flatP] using h
theorem grownB {B : Nat} {w W w' : World} {row : Option Nat} (hb : Below B w W) (hw : B ≤ w.heap.size) (hg : W.grownBy w' row) (hr : ∀ k, row = some k → B ≤ k) : Below B w w' :=
  ⟨hg.os.trans hb.os, hg.tape.trans hb.tape, hg.output.trans hb.output, Nat.le_trans hb.size hg.size, fun k hk => (hg.block k (Nat.lt_of_lt_of_le hk (Nat.le_trans hw hb.size)) (fun e => by have := hr k e.symm; omega)).trans (hb.block k hk)⟩

/-- Nothing below w0 has turned, and v is a slice of the call's own that holds the points. -/
def Row (w0 : World) (v : Value) (ps : List (Int × Int)) (W : World) : Prop :=
  Below w0.heap.size w0 W ∧ W.ownsRow w0.heap.size 35 2 v ps.length (flatP ps)
section
variable {w0 W W' : World} {v : Value} {ps : List (Int × Int)}
theorem Row.nil (h : Below w0.heap.size w0 W) : Row w0 (.slice none 0 0) [] W := ⟨h, World.ownsRow_nil _ _ _ _⟩
theorem Row.on (h : Row w0 v ps W) (hb : Below W.heap.size W W') : Row w0 v ps W' := by
  refine ⟨h.1.trans (hb.mono h.1.size), h.2.1, ?_⟩
  rcases h.2.2 with h0 | ⟨g, cap, cur, rfl, hg, hh, hrest⟩
  · exact .inl h0
  · exact .inr ⟨g, cap, cur, rfl, hg, (hb.block _ (blk_lt hh)).trans hh, hrest⟩
theorem Row.alloc (h : Row w0 v ps W) (o : Obj) : Row w0 v ps (W.alloc o) := h.on ((Below.refl _ W).alloc (Nat.le_refl _) _)
theorem Row.pts (h : Row w0 v ps W) : ∃ A cap, v = .slice A ps.length cap ∧ Pts W W.heap.size A ps := by
  have hc := fun g (hg : v.ownBlock = some g) => h.2.cells hg
  obtain ⟨hl, ⟨rfl, h0⟩ | ⟨g, cap, cur, rfl, hb, hg, -⟩⟩ := h.2
  · exact ⟨none, 0, by rw [h0], fun hp => absurd hp (by omega)⟩
  · refine ⟨some ⟨g, 0, none⟩, cap, rfl, fun _ => ⟨_, rfl, blk_lt hg, fun k p hp => ?_⟩⟩
    have hc := hc g rfl
    obtain ⟨g0, g1⟩ := flatP_get ps k
    rw [hp] at g0 g1
    exact ⟨hc _ _ g0, by rw [Go.Deep.add_add]; exact hc _ _ g1⟩
end
theorem infoP : (Try.prog.info? 35).map (fun i => (i.zero, i.size, i.bytes)) = some (some (.agg #[.int .i64 0, .int .i64 0]), 2, 16) := by kernel_rfl

/-- One point more: it stands in a block of its own, and is appended from there, whatever the slice's type is called. -/
theorem append_pt {w0 W : World} {v : Value} {ps : List (Int × Int)} (T : TypeId) (hT : Try.prog.underlying T = some (.slice 35)) (HR : Row w0 v ps W) (hn : ps.length ≤ 1000000000) (p : Int × Int) (t' : TypeId)
    {ops : Array Oper} {rest : List Oper} {o : Oper} {a : Act} {Q : Exit → Act → World → Prop} (hgd : o.guard = none) (s x : Operand)
    (ho : o.op = .call { callee := .builtin .append, args := #[s, x], argTypes := #[T, T] })
    (hs : a.eval s = v) (c : Nat) (hx : a.eval x = .slice (some ⟨W.heap.size, 0, none⟩) 1 c)
    (h : ∀ v' w', Row w0 v' (ps ++ [p]) w' → wpList Try.prog ops Q rest (a.put o.dst v') w') :
    wpList Try.prog ops Q (o :: rest) a (W.alloc (Obj.cells #[.int .i64 p.1, .int .i64 p.2] t' (0, 0))) := by
  obtain ⟨i0, hi, hz0, hz1, hz2⟩ := info_parts infoP
  have hA := HR.alloc (Obj.cells #[.int .i64 p.1, .int .i64 p.2] t' (0, 0))
  have hnew := heap_alloc_new W (Obj.cells #[.int .i64 p.1, .int .i64 p.2] t' (0, 0))
  refine wpList_append_own _ hgd s x T ho w0.heap.size 35 i0 (.agg #[.int .i64 0, .int .i64 0]) 2 16 hT hi hz0 hz1 hz2 rfl (by decide) v ps.length (flatP ps) hs hA.2 ⟨W.heap.size, 0, none⟩ 1 c [.int .i64 p.1, .int .i64 p.2] hx rfl ?_ ?_ (by unfold maxLen; omega) (by omega) hA.1.size ?_
  · intro j u hj
    match j, hj with
    | 0, hj => simp at hj; subst hj; simp [Addr.add, blk_cell hnew]
    | 1, hj => simp at hj; subst hj; simp [Addr.add, blk_cell hnew]
  · intro u hu
    simp only [List.mem_cons, List.not_mem_nil, or_false] at hu
    rcases hu with rfl | rfl <;> rfl
  · intro v' w' hown hgrow _
    refine h v' w' ⟨grownB hA.1 (Nat.le_refl _) hgrow (fun k hk => (hA.2.lt k hk).1), ?_⟩
    rw [List.length_append, flatP_snoc]
    exact hown
theorem append_point {w0 W : World} {v : Value} {ps : List (Int × Int)} (HR : Row w0 v ps W) (hn : ps.length ≤ 1000000000) (p : Int × Int) (t' : TypeId)
    {ops : Array Oper} {rest : List Oper} {o : Oper} {a : Act} {Q : Exit → Act → World → Prop} (hgd : o.guard = none) (s x : Operand)
    (ho : o.op = .call { callee := .builtin .append, args := #[s, x], argTypes := #[22, 22] })
    (hs : a.eval s = v) (c : Nat) (hx : a.eval x = .slice (some ⟨W.heap.size, 0, none⟩) 1 c)
    (h : ∀ v' w', Row w0 v' (ps ++ [p]) w' → wpList Try.prog ops Q rest (a.put o.dst v') w') :
    wpList Try.prog ops Q (o :: rest) a (W.alloc (Obj.cells #[.int .i64 p.1, .int .i64 p.2] t' (0, 0))) :=
  append_pt _ Try.underlying22 HR hn p t' hgd s x ho hs c hx h
end Go.Proofs.Ytkkdjbmdfpmkpaa
