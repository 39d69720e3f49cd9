/- A slice of points of the call's own, to which points are appended. -/
import Derived.Test.YtjlnjjmomohpaaaGreatGeo3
import Derived.OwnWalk
import Derived.Deep.SlicePairs
import Derived.WalkKit
import Derived.BigQuiet
namespace Go.Proofs.YtjlnjjmomohpaaaGreat
open Go.RowKit

def flatP : List (Int × Int) → List Value
 |[] => []
 |p :: ps => .int .i64 p.1 :: .int .i64 p.2 :: flatP ps
theorem flatP_length : ∀ ps, (flatP ps).length = ps.length * 2
 |[] => rfl
 |p :: ps => by simp only [flatP, List.length_cons, flatP_length ps]; omega
theorem flatP_snoc : ∀ (ps : List (Int × Int)) (p : Int × Int), flatP (ps ++ [p]) = flatP ps ++ [.int .i64 p.1, .int .i64 p.2]
 |[], p => rfl
 |q :: ps, p => by simp only [List.cons_append, flatP, flatP_snoc ps p]
theorem flatP_get : ∀ (ps : List (Int × Int)) (k : Nat), (flatP ps)[k * 2]? = (ps[k]?).map (fun p => .int .i64 p.1) ∧ (flatP ps)[k * 2 + 1]? = (ps[k]?).map (fun p => .int .i64 p.2)
 |[], k => by simp [flatP]
 |p :: ps, 0 => by simp [flatP]
 |p :: ps, k + 1 => by
  have h := flatP_get ps k
  rw [show (k + 1) * 2 = k * 2 + 1 + 1 by omega]
  simpa [flatP] using h
theorem grownB {B : Nat} {w W w' : World} {row : Option Nat} (hb : Below B w W) (hw : B ≤ w.heap.size) (hg : W.grownBy w' row) (hr : ∀ k, row = some k → B ≤ k) : Below B w w' :=
 ⟨hg.os.trans hb.os, hg.tape.trans hb.tape, hg.output.trans hb.output, Nat.le_trans hb.size hg.size, fun k hk => (hg.block k (Nat.lt_of_lt_of_le hk (Nat.le_trans hw hb.size)) (fun e => by have := hr k e.symm; omega)).trans (hb.block k hk)⟩

def Row (w0 : World) (v : Value) (ps : List (Int × Int)) (W : World) : Prop :=
 Below w0.heap.size w0 W ∧ W.ownsRow w0.heap.size 56 2 v ps.length (flatP ps)
section
variable {w0 W W' : World} {v : Value} {ps : List (Int × Int)}
theorem Row.nil (h : Below w0.heap.size w0 W) : Row w0 (.slice none 0 0) [] W := ⟨h, World.ownsRow_nil _ _ _ _⟩
theorem Row.on (h : Row w0 v ps W) (hb : Below W.heap.size W W') : Row w0 v ps W' := by
 refine ⟨h.1.trans (hb.mono h.1.size), h.2.1, ?_⟩
 rcases h.2.2 with h0 | ⟨g, cap, cur, rfl, hg, hh, hrest⟩
 ·exact .inl h0
 ·exact .inr ⟨g, cap, cur, rfl, hg, (hb.block _ (blk_lt hh)).trans hh, hrest⟩
theorem Row.alloc (h : Row w0 v ps W) (o : Obj) : Row w0 v ps (W.alloc o) := h.on ((Below.refl _ W).alloc (Nat.le_refl _) _)
theorem Row.pts (h : Row w0 v ps W) : ∃ A cap, v = .slice A ps.length cap ∧ Pts W W.heap.size A ps := by
 have hc := fun g (hg : v.ownBlock = some g) => h.2.cells hg
 obtain ⟨hl, ⟨rfl, h0⟩ | ⟨g, cap, cur, rfl, hb, hg, -⟩⟩ := h.2
 ·exact ⟨none, 0, by rw [h0], fun hp => absurd hp (by omega)⟩
 ·refine ⟨some ⟨g, 0, none⟩, cap, rfl, fun _ => ⟨_, rfl, blk_lt hg, fun k p hp => ?_⟩⟩
  have hc := hc g rfl
  obtain ⟨g0, g1⟩ := flatP_get ps k
  rw [hp] at g0 g1
  exact ⟨hc _ _ g0, by rw [Go.Deep.add_add]; exact hc _ _ g1⟩
end
theorem infoP : (Tryz.prog.info? 56).map (fun i => (i.zero, i.size, i.bytes)) = some (some (.agg #[.int .i64 0, .int .i64 0]), 2, 16) := by kernel_rfl

theorem append_pt {w0 W : World} {v : Value} {ps : List (Int × Int)} (T : TypeId) (hT : Tryz.prog.underlying T = some (.slice 56)) (HR : Row w0 v ps W) (hn : ps.length ≤ 1000000000) (p : Int × Int) (t' : TypeId)
  {ops : Array Oper} {rest : List Oper} {o : Oper} {a : Act} {Q : Exit → Act → World → Prop} (hgd : o.guard = none) (s x : Operand)
  (ho : o.op = .call { callee := .builtin .append, args := #[s, x], argTypes := #[T, T] })
  (hs : a.eval s = v) (c : Nat) (hx : a.eval x = .slice (some ⟨W.heap.size, 0, none⟩) 1 c)
  (h : ∀ v' w', Row w0 v' (ps ++ [p]) w' → wpList Tryz.prog ops Q rest (a.put o.dst v') w') :
  wpList Tryz.prog ops Q (o :: rest) a (W.alloc (Obj.cells #[.int .i64 p.1, .int .i64 p.2] t' (0, 0))) := by
 obtain ⟨i0, hi, hz0, hz1, hz2⟩ := info_parts infoP
 have hA := HR.alloc (Obj.cells #[.int .i64 p.1, .int .i64 p.2] t' (0, 0))
 have hnew := heap_alloc_new W (Obj.cells #[.int .i64 p.1, .int .i64 p.2] t' (0, 0))
 refine wpList_append_own _ hgd s x T ho w0.heap.size 56 i0 (.agg #[.int .i64 0, .int .i64 0]) 2 16 hT hi hz0 hz1 hz2 rfl (by decide) v ps.length (flatP ps) hs hA.2 ⟨W.heap.size, 0, none⟩ 1 c [.int .i64 p.1, .int .i64 p.2] hx rfl ?_ ?_ (by unfold maxLen; omega) (by omega) hA.1.size ?_
 ·intro j u hj
  match j, hj with
  |0, hj => simp at hj; subst hj; simp [Addr.add, blk_cell hnew]
  |1, hj => simp at hj; subst hj; simp [Addr.add, blk_cell hnew]
 ·intro u hu
  simp only [List.mem_cons, List.not_mem_nil, or_false] at hu
  rcases hu with rfl | rfl <;> rfl
 ·intro v' w' hown hgrow _
  refine h v' w' ⟨grownB hA.1 (Nat.le_refl _) hgrow (fun k hk => (hA.2.lt k hk).1), ?_⟩
  rw [List.length_append, flatP_snoc]
  exact hown
theorem append_point {w0 W : World} {v : Value} {ps : List (Int × Int)} (HR : Row w0 v ps W) (hn : ps.length ≤ 1000000000) (p : Int × Int) (t' : TypeId)
  {ops : Array Oper} {rest : List Oper} {o : Oper} {a : Act} {Q : Exit → Act → World → Prop} (hgd : o.guard = none) (s x : Operand)
  (ho : o.op = .call { callee := .builtin .append, args := #[s, x], argTypes := #[22, 22] })
  (hs : a.eval s = v) (c : Nat) (hx : a.eval x = .slice (some ⟨W.heap.size, 0, none⟩) 1 c)
  (h : ∀ v' w', Row w0 v' (ps ++ [p]) w' → wpList Tryz.prog ops Q rest (a.put o.dst v') w') :
  wpList Tryz.prog ops Q (o :: rest) a (W.alloc (Obj.cells #[.int .i64 p.1, .int .i64 p.2] t' (0, 0))) :=
 append_pt _ Tryz.underlying22 HR hn p t' hgd s x ho hs c hx h
end Go.Proofs.YtjlnjjmomohpaaaGreat

namespace Go.Proofs.YtjlnjjmomohpaaaGreat
open Go.RowKit

def ptB (a b c d : Int × Int) : Bool := decide (sgn (crs a b c) * sgn (crs a b d) < 0)
theorem ptB_iff {a b c d : Int × Int} : ptB a b c d = true ↔ crs a b c * crs a b d < 0 := by
 unfold ptB; rw [decide_eq_true_iff]; exact sgn_mul
theorem sgn_prod (x y : Int) : -1 ≤ sgn x * sgn y ∧ sgn x * sgn y ≤ 1 := by
 have := mul_lim (x := sgn x) (y := sgn y) (P := 1) (Q := 1) (sgn_bd x) (sgn_bd y)
 omega

set_option maxHeartbeats 800000 in
theorem parts_any (a b c d : Int × Int) (ha : Gd a) (hb : Gd b) (hc : Gd c) (hd : Gd d) (w : World) :
  Calls Tryz.prog 188 #[.agg #[.int .i64 a.1, .int .i64 a.2], .agg #[.int .i64 b.1, .int .i64 b.2], .agg #[.int .i64 c.1, .int .i64 c.2], .agg #[.int .i64 d.1, .int .i64 d.2]] w fun e w' => e = .returned (.bool (ptB a b c d)) ∧ Below w.heap.size w w' := by
 have hx := fun W => turn_any a b c ha hb hc W
 have hy := fun W => turn_any a b d ha hb hd W
 have HX := Lib.hid hx
 have HY := Lib.hid hy
 have hp := sgn_prod (crs a b c) (crs a b d)
 have q1 := wrap_in (n := sgn (crs a b c) * sgn (crs a b d)) (by omega) (by omega)
 have HG := Lib.hid (show ptB a b c d = decide (sgn (crs a b c) * sgn (crs a b d) < 0) from rfl)
 have HQ := Hold.four0 w a b c d
 clear hx hy ha hb hc hd hp
 go_enter Tryz.func188, Tryz.ntmps188
 go_upto_region 1 with (fail)
 generalize (World.alloc _ _) = W1 at HQ ⊢
 generalize w.heap.size + 1 + 1 + 1 = g6 at HQ ⊢
 generalize w.heap.size + 1 + 1 = g5 at HQ ⊢
 generalize w.heap.size + 1 = g4 at HQ ⊢
 go_region_held3 (fun W => W.cell? ⟨w.heap.size, 0, none⟩ = some (.int .i64 a.1) ∧ W.cell? ⟨w.heap.size, 1, none⟩ = some (.int .i64 a.2) ∧ W.cell? ⟨g4, 0, none⟩ = some (.int .i64 b.1) ∧ W.cell? ⟨g4, 1, none⟩ = some (.int .i64 b.2) ∧ W.cell? ⟨g5, 0, none⟩ = some (.int .i64 c.1) ∧ W.cell? ⟨g5, 1, none⟩ = some (.int .i64 c.2) ∧ W.cell? ⟨g6, 0, none⟩ = some (.int .i64 d.1) ∧ W.cell? ⟨g6, 1, none⟩ = some (.int .i64 d.2)) (first | exact Hold.rd4 (by assumption) | exact Hold.rd4 (Hold.drew (by assumption))) (first
  |(go_at_call 195; (with_reducible refine (HX.out _).mono ?_); rintro e w' ⟨rfl, hB⟩; have HS' := Hold.on (by first | assumption | exact Hold.drew (by assumption)) hB)
  |(go_at_call 195; (with_reducible refine (HY.out _).mono ?_); rintro e w' ⟨rfl, hB⟩; have HS' := Hold.on (by first | assumption | exact Hold.drew (by assumption)) hB))
 go_wp2
 go_ret
 rw [HG.out]
 exact ⟨rfl, HS'.1⟩
end Go.Proofs.YtjlnjjmomohpaaaGreat

namespace Go.Proofs.YtjlnjjmomohpaaaGreat
open Go.RowKit

def ends2 (c d : Int × Int) (l : List (Int × Int)) : List (Int × Int) := l.filter (onB c d)
def ends (a b c d : Int × Int) : List (Int × Int) := ends2 c d [a, b] ++ ends2 a b [c, d]
theorem ends2_len (c d : Int × Int) (l : List (Int × Int)) : (ends2 c d l).length ≤ l.length := List.length_filter_le _ _

theorem ends2_yes {c d p : Int × Int} {l : List (Int × Int)} (h : onB c d p = true) : ends2 c d (l ++ [p]) = ends2 c d l ++ [p] := by
 unfold ends2; rw [List.filter_append]; simp [h]
theorem ends2_no {c d p : Int × Int} {l : List (Int × Int)} (h : onB c d p = false) : ends2 c d (l ++ [p]) = ends2 c d l := by
 unfold ends2; rw [List.filter_append]; simp [h]
theorem ends_yes {a b p : Int × Int} {m l : List (Int × Int)} (h : onB a b p = true) : m ++ ends2 a b (l ++ [p]) = (m ++ ends2 a b l) ++ [p] := by
 rw [ends2_yes h, List.append_assoc]
theorem ends_no {a b p : Int × Int} {m l : List (Int × Int)} (h : onB a b p = false) : m ++ ends2 a b (l ++ [p]) = m ++ ends2 a b l := by
 rw [ends2_no h]
theorem ends_short (a b c d x : Int × Int) : (ends2 c d [a, b] ++ ends2 a b [x]).length ≤ 1000000000 := by
 have h1 := ends2_len c d [a, b]
 have h2 := ends2_len a b [x]
 rw [List.length_append]
 simp only [List.length_cons, List.length_nil] at h1 h2
 omega
theorem arr_0 (x y x' y' : Int) (w : World) : (Instr.index 240 (.agg #[.int .i64 x, .int .i64 y, .int .i64 x', .int .i64 y']) (.int .i64 0)).run Tryz.prog w = .ok (.agg #[.int .i64 x, .int .i64 y]) w := by kernel_rfl
theorem arr_1 (x y x' y' : Int) (w : World) : (Instr.index 240 (.agg #[.int .i64 x, .int .i64 y, .int .i64 x', .int .i64 y']) (.int .i64 1)).run Tryz.prog w = .ok (.agg #[.int .i64 x', .int .i64 y']) w := by kernel_rfl

set_option maxRecDepth 100000 in
set_option maxHeartbeats 2000000 in
theorem shared_any (a b c d : Int × Int) (ha : Gd a) (hb : Gd b) (hc : Gd c) (hd : Gd d) (w : World) :
  Calls Tryz.prog 187 #[.agg #[.int .i64 a.1, .int .i64 a.2], .agg #[.int .i64 b.1, .int .i64 b.2], .agg #[.int .i64 c.1, .int .i64 c.2], .agg #[.int .i64 d.1, .int .i64 d.2]] w fun e w' => ∃ A cap, e = .returned (.slice A (ends a b c d).length cap) ∧ Pts w' w'.heap.size A (ends a b c d) ∧ Below w.heap.size w w' := by
 have hx := fun p hp W => on_any c d p hc hd hp W
 have hy := fun p hp W => on_any a b p ha hb hp W
 have HX := Lib.hid hx
 have HY := Lib.hid hy
 have GA := Lib.hid ha
 have GB := Lib.hid hb
 have GC := Lib.hid hc
 have GD := Lib.hid hd
 have HQ := Hold.four0 w a b c d
 clear hx hy ha hb hc hd
 go_enter Tryz.func187, Tryz.ntmps187
 go_wp2_with fail
 generalize (World.alloc _ _) = W1 at HQ ⊢
 generalize w.heap.size + 1 + 1 + 1 = g6 at HQ ⊢
 generalize w.heap.size + 1 + 1 = g5 at HQ ⊢
 generalize w.heap.size + 1 = g4 at HQ ⊢
 go_loopw [9, 17] (fun v i wr => (i = .int .i64 0 ∧ Row W1 v (([] : List (Int × Int))) wr) ∨ (i = .int .i64 1 ∧ Row W1 v (ends2 c d [a]) wr) ∨ (i = .int .i64 2 ∧ Row W1 v (ends2 c d [a, b]) wr)) (fun _ i _ => 2 - (intOf i).toNat)
 case atStart => exact .inl ⟨rfl, Row.nil (Below.refl _ _)⟩
 case round =>
  rcases hrel with ⟨rfl, HR⟩ | ⟨rfl, HR⟩ | ⟨rfl, HR⟩
  ·obtain ⟨f0, f1, f2, f3, f4, f5, f6, f7⟩ := ((HQ.on HR.1).alloc (Obj.cells #[.int .i64 a.1, .int .i64 a.2] 56)).rd4
   have x0 := arr_0 a.1 a.2 b.1 b.2
   cases h1 : onB c d a
   ·have e : ends2 c d [a] = ([] : List (Int × Int)) := ends2_no (l := []) h1
    have HE := Lib.hid e
    clear e
    go_wp2_with fail
    go_at_call 194
    refine (HX.out a GA.out _).mono ?_
    rintro e w1 ⟨rfl, hB⟩
    have HR1 := (HR.alloc (Obj.cells #[.int .i64 a.1, .int .i64 a.2] 56)).on hB
    clear HR hB f0 f1 f2 f3 f4 f5 f6 f7
    go_wp2
    exact ⟨.inr <| .inl ⟨rfl, by rw [HE.out]; exact HR1⟩, by simp [intOf]⟩
   ·have e : ends2 c d [a] = ([] : List (Int × Int)) ++ [a] := ends2_yes (l := []) h1
    have HE := Lib.hid e
    clear e
    go_wp2_with fail
    go_at_call 194
    refine (HX.out a GA.out _).mono ?_
    rintro e w1 ⟨rfl, hB⟩
    have HR1 := (HR.alloc (Obj.cells #[.int .i64 a.1, .int .i64 a.2] 56)).on hB
    have HP := (((HQ.on HR.1).new #[.int .i64 a.1, .int .i64 a.2] 56).on hB).top
    obtain ⟨k0, k1, -, -⟩ := HP
    have hn : (([] : List (Int × Int))).length ≤ 1000000000 := Nat.zero_le _
    have HN := Lib.hid hn
    clear hn HR hB f0 f1 f2 f3 f4 f5 f6 f7
    go_wp2_with (at_builtin; refine append_point HR1 HN.out a _ rfl _ _ rfl rfl _ rfl ?_; rintro v' w2 HR2)
    exact ⟨.inr <| .inl ⟨rfl, by rw [HE.out]; exact HR2⟩, by simp [intOf]⟩
  ·obtain ⟨f0, f1, f2, f3, f4, f5, f6, f7⟩ := ((HQ.on HR.1).alloc (Obj.cells #[.int .i64 b.1, .int .i64 b.2] 56)).rd4
   have x0 := arr_1 a.1 a.2 b.1 b.2
   cases h1 : onB c d b
   ·have e : ends2 c d [a, b] = ends2 c d [a] := ends2_no (l := [a]) h1
    have HE := Lib.hid e
    clear e
    go_wp2_with fail
    go_at_call 194
    refine (HX.out b GB.out _).mono ?_
    rintro e w1 ⟨rfl, hB⟩
    have HR1 := (HR.alloc (Obj.cells #[.int .i64 b.1, .int .i64 b.2] 56)).on hB
    clear HR hB f0 f1 f2 f3 f4 f5 f6 f7
    go_wp2
    exact ⟨.inr <| .inr ⟨rfl, by rw [HE.out]; exact HR1⟩, by simp [intOf]⟩
   ·have e : ends2 c d [a, b] = ends2 c d [a] ++ [b] := ends2_yes (l := [a]) h1
    have HE := Lib.hid e
    clear e
    go_wp2_with fail
    go_at_call 194
    refine (HX.out b GB.out _).mono ?_
    rintro e w1 ⟨rfl, hB⟩
    have HR1 := (HR.alloc (Obj.cells #[.int .i64 b.1, .int .i64 b.2] 56)).on hB
    have HP := (((HQ.on HR.1).new #[.int .i64 b.1, .int .i64 b.2] 56).on hB).top
    obtain ⟨k0, k1, -, -⟩ := HP
    have hn : (ends2 c d [a]).length ≤ 1000000000 := Nat.le_trans (ends2_len c d [a]) (by simp)
    have HN := Lib.hid hn
    clear hn HR hB f0 f1 f2 f3 f4 f5 f6 f7
    go_wp2_with (at_builtin; refine append_point HR1 HN.out b _ rfl _ _ rfl rfl _ rfl ?_; rintro v' w2 HR2)
    exact ⟨.inr <| .inr ⟨rfl, by rw [HE.out]; exact HR2⟩, by simp [intOf]⟩
  ·obtain ⟨f0, f1, f2, f3, f4, f5, f6, f7⟩ := (HQ.on HR.1).rd4
   clear HX
   go_wp2_with fail
   go_loopw [9, 32] (fun v i wr => (i = .int .i64 0 ∧ Row W1 v (ends2 c d [a, b]) wr) ∨ (i = .int .i64 1 ∧ Row W1 v (ends2 c d [a, b] ++ ends2 a b [c]) wr) ∨ (i = .int .i64 2 ∧ Row W1 v (ends a b c d) wr)) (fun _ i _ => 2 - (intOf i).toNat)
   case atStart => exact .inl ⟨rfl, HR⟩
   case round =>
    clear HR
    rcases hrel with ⟨rfl, HR⟩ | ⟨rfl, HR⟩ | ⟨rfl, HR⟩
    ·obtain ⟨f0, f1, f2, f3, f4, f5, f6, f7⟩ := ((HQ.on HR.1).alloc (Obj.cells #[.int .i64 c.1, .int .i64 c.2] 56)).rd4
     have x0 := arr_0 c.1 c.2 d.1 d.2
     cases h1 : onB a b c
     ·have e : ends2 c d [a, b] ++ ends2 a b [c] = ends2 c d [a, b] := (ends_no (m := ends2 c d [a, b]) (l := []) h1).trans (List.append_nil _)
      have HE := Lib.hid e
      clear e
      go_wp2_with fail
      go_at_call 194
      refine (HY.out c GC.out _).mono ?_
      rintro e w1 ⟨rfl, hB⟩
      have HR1 := (HR.alloc (Obj.cells #[.int .i64 c.1, .int .i64 c.2] 56)).on hB
      clear HR hB f0 f1 f2 f3 f4 f5 f6 f7
      go_wp2
      exact ⟨.inr <| .inl ⟨rfl, by rw [HE.out]; exact HR1⟩, by simp [intOf]⟩
     ·have e : ends2 c d [a, b] ++ ends2 a b [c] = ends2 c d [a, b] ++ [c] := (ends_yes (m := ends2 c d [a, b]) (l := []) h1).trans (congrArg (· ++ [c]) (List.append_nil _))
      have HE := Lib.hid e
      clear e
      go_wp2_with fail
      go_at_call 194
      refine (HY.out c GC.out _).mono ?_
      rintro e w1 ⟨rfl, hB⟩
      have HR1 := (HR.alloc (Obj.cells #[.int .i64 c.1, .int .i64 c.2] 56)).on hB
      have HP := (((HQ.on HR.1).new #[.int .i64 c.1, .int .i64 c.2] 56).on hB).top
      obtain ⟨k0, k1, -, -⟩ := HP
      have hn : (ends2 c d [a, b]).length ≤ 1000000000 := Nat.le_trans (ends2_len c d [a, b]) (by simp)
      have HN := Lib.hid hn
      clear hn HR hB f0 f1 f2 f3 f4 f5 f6 f7
      go_wp2_with (at_builtin; refine append_point HR1 HN.out c _ rfl _ _ rfl rfl _ rfl ?_; rintro v' w2 HR2)
      exact ⟨.inr <| .inl ⟨rfl, by rw [HE.out]; exact HR2⟩, by simp [intOf]⟩
    ·obtain ⟨f0, f1, f2, f3, f4, f5, f6, f7⟩ := ((HQ.on HR.1).alloc (Obj.cells #[.int .i64 d.1, .int .i64 d.2] 56)).rd4
     have x0 := arr_1 c.1 c.2 d.1 d.2
     cases h1 : onB a b d
     ·have e : ends a b c d = ends2 c d [a, b] ++ ends2 a b [c] := ends_no (m := ends2 c d [a, b]) (l := [c]) h1
      have HE := Lib.hid e
      clear e
      go_wp2_with fail
      go_at_call 194
      refine (HY.out d GD.out _).mono ?_
      rintro e w1 ⟨rfl, hB⟩
      have HR1 := (HR.alloc (Obj.cells #[.int .i64 d.1, .int .i64 d.2] 56)).on hB
      clear HR hB f0 f1 f2 f3 f4 f5 f6 f7
      go_wp2
      exact ⟨.inr <| .inr ⟨rfl, by rw [HE.out]; exact HR1⟩, by simp [intOf]⟩
     ·have e : ends a b c d = ends2 c d [a, b] ++ ends2 a b [c] ++ [d] := ends_yes (m := ends2 c d [a, b]) (l := [c]) h1
      have HE := Lib.hid e
      clear e
      go_wp2_with fail
      go_at_call 194
      refine (HY.out d GD.out _).mono ?_
      rintro e w1 ⟨rfl, hB⟩
      have HR1 := (HR.alloc (Obj.cells #[.int .i64 d.1, .int .i64 d.2] 56)).on hB
      have HP := (((HQ.on HR.1).new #[.int .i64 d.1, .int .i64 d.2] 56).on hB).top
      obtain ⟨k0, k1, -, -⟩ := HP
      have hn : (ends2 c d [a, b] ++ ends2 a b [c]).length ≤ 1000000000 := ends_short a b c d c
      have HN := Lib.hid hn
      clear hn HR hB f0 f1 f2 f3 f4 f5 f6 f7
      go_wp2_with (at_builtin; refine append_point HR1 HN.out d _ rfl _ _ rfl rfl _ rfl ?_; rintro v' w2 HR2)
      exact ⟨.inr <| .inr ⟨rfl, by rw [HE.out]; exact HR2⟩, by simp [intOf]⟩
    ·obtain ⟨A, cap, rfl, HP⟩ := HR.pts
     have HB := Lib.hid (HQ.on HR.1).1
     have HP' := Lib.hid HP
     clear HP HR
     go_wp2
     go_ret
     exact ⟨A, cap, rfl, HP'.out, HB.out⟩
end Go.Proofs.YtjlnjjmomohpaaaGreat

namespace Go.Proofs.YtjlnjjmomohpaaaGreat
open Go.RowKit

def oneB (ps : List (Int × Int)) : Bool := ps.all (fun q => decide (q = ps.headD (0, 0)))

theorem add_none (a : Addr) : a.add 0 = a := by simp [Addr.add]
theorem below_dn {B : Nat} {a w : World} (h : Below B a w) (n : Nat) : Below B a (w.drewN n) := ⟨h.os, h.tape, h.output, h.size, h.block⟩

set_option maxHeartbeats 800000 in
theorem alone_any (ps : List (Int × Int)) (A : Option Addr) (cap : Nat) (w : World) (hn : ps.length ≤ maxLen) (hr : Pts w w.heap.size A ps) :
  Calls Tryz.prog 189 #[.slice A ps.length cap] w fun e w' => e = .returned (.bool (oneB ps)) ∧ Below w.heap.size w w' := by
 unfold maxLen at hn
 go_enter Tryz.func189, Tryz.ntmps189
 go_wp2
 go_loopw [7] (fun i wr => ∃ k : Nat, k ≤ ps.length ∧ i = .int .i64 k ∧ oneB ps = (ps.drop k).all (fun q => decide (q = ps.headD (0, 0))) ∧ Below w.heap.size w wr) (fun i _ => ps.length - (intOf i).toNat)
 case atStart => exact ⟨0, Nat.zero_le _, rfl, rfl, Below.refl _ _⟩
 case round =>
  obtain ⟨k, hk, rfl, hall, hB⟩ := hrel
  have hz := hB.size
  by_cases hlt : k < ps.length
  ·obtain ⟨ad, rfl, hadb, d0, d1⟩ := hr.at hB hlt
   obtain ⟨ad', e', -, d2, d3⟩ := hr.at (hB.alloc hB.size (Obj.cells #[.int .i64 ps[k].1, .int .i64 ps[k].2] 56)) (show 0 < ps.length by omega)
   obtain rfl := Option.some.inj e'
   have hdrop : ps.drop k = ps[k] :: ps.drop (k + 1) := List.drop_eq_getElem_cons hlt
   have hh : ps.headD (0, 0) = ps[0] := by
    cases ps with
    |nil => simp at hlt
    |cons p q => rfl
   have b0 : (0 : Int) ≤ (k : Int) := by omega
   have b1 : (k : Int) < (ps.length : Int) := by omega
   have b2 : (0 : Int) < (ps.length : Int) := by omega
   have b3 : 0 < ps.length := by omega
   rw [hdrop, List.all_cons, hh] at hall
   clear hr hdrop e'
   have HH := Lib.hid hh
   clear hh
   rw [Nat.zero_mul, add_none] at d2 d3
   generalize ps[k] = p at *
   generalize ps[0] = q at *
   by_cases h1 : p.1 = q.1
   ·by_cases h2 : p.2 = q.2
    ·obtain rfl : p = q := Prod.ext h1 h2
     have HG : Hid (oneB ps = (ps.drop (k + 1)).all (fun q => decide (q = ps.headD (0, 0)))) := by unfold Hid; rw [hall, HH.out, decide_eq_true rfl, Bool.true_and]
     clear hall h1 h2 HH
     go_upto_region 4 with (fail)
     go_quiet (fail)
     go_wp2
     exact ⟨⟨k + 1, by omega, by go_num, HG.out, below_dn (hB.alloc hB.size _) _⟩, by simp [intOf]; omega⟩
    ·have HG : Hid (oneB ps = false) := by unfold Hid; rw [hall, decide_eq_false (fun e => h2 (congrArg Prod.snd e)), Bool.false_and]
     have e1 : (p.1 == q.1) = true := by simpa using h1
     have e2 : (p.2 == q.2) = false := by simpa using h2
     clear hall h1 h2 HH
     go_upto_region 4 with (fail)
     go_quiet (fail)
     go_wp2
     go_ret
     rw [HG.out]
     exact ⟨rfl, below_dn (hB.alloc hB.size _) _⟩
   ·have HG : Hid (oneB ps = false) := by unfold Hid; rw [hall, decide_eq_false (fun e => h1 (congrArg Prod.fst e)), Bool.false_and]
    have e1 : (p.1 == q.1) = false := by simpa using h1
    clear hall h1 HH
    go_upto_region 4 with (fail)
    go_quiet (fail)
    go_wp2
    go_ret
    rw [HG.out]
    exact ⟨rfl, below_dn (hB.alloc hB.size _) _⟩
  ·obtain rfl : k = ps.length := by omega
   have HG : Hid (oneB ps = true) := by unfold Hid; rw [hall, List.drop_length]; rfl
   clear hall
   go_wp2
   go_ret
   rw [HG.out]
   exact ⟨rfl, hB⟩
end Go.Proofs.YtjlnjjmomohpaaaGreat

namespace Go.Proofs.YtjlnjjmomohpaaaGreat
open Go.RowKit

def meetN (a b c d : Int × Int) : Int := if (ends a b c d).length = 0 then (if ptB a b c d && ptB c d a b then 2 else 0) else if oneB (ends a b c d) then 1 else 3
theorem add_off (g n : Nat) : (⟨g, 0, none⟩ : Addr).add n = ⟨g, n, none⟩ := by
 unfold Addr.add
 split <;> simp_all
theorem pts_of {w : World} {B g : Nat} {t : TypeId} {ps : List (Int × Int)} (hh : w.heap[g]? = some (.cells (flatP ps).toArray t (0, 0))) (hg : g < B) : Pts w B (some ⟨g, 0, none⟩) ps := by
 intro _
 refine ⟨_, rfl, hg, fun k p hp => ?_⟩
 have hc := fun i => blk_cell hh i
 obtain ⟨g0, g1⟩ := flatP_get ps k
 rw [hp] at g0 g1
 constructor
 ·rw [add_off, hc (k * 2), List.getElem?_toArray, g0]; rfl
 ·rw [Go.Deep.add_add, add_off, hc (k * 2 + 1), List.getElem?_toArray, g1]; rfl
theorem good_new (ps : List (Int × Int)) (cap : Nat) (w W : World) (t : TypeId) (hn : ps.length ≤ maxLen) (hW : W = w.alloc (Obj.cells (flatP ps).toArray t (0, 0))) :
  Calls Tryz.prog 162 #[.slice (some ⟨w.heap.size, 0, none⟩) ps.length cap] W fun e w' => e = .returned (.bool (gdL ps)) ∧ Below W.heap.size W w' := by
 subst hW
 exact good_any ps _ cap _ hn (pts_of (heap_alloc_new w _) (by simp only [World.size_alloc]; omega))
theorem good_four (a b c d : Int × Int) (cap : Nat) (w : World) (t : TypeId) :
  Calls Tryz.prog 162 #[.slice (some ⟨w.heap.size, 0, none⟩) 4 cap] (w.alloc (Obj.cells #[.int .i64 a.1, .int .i64 a.2, .int .i64 b.1, .int .i64 b.2, .int .i64 c.1, .int .i64 c.2, .int .i64 d.1, .int .i64 d.2] t (0, 0))) fun e w' => e = .returned (.bool (gdL [a, b, c, d])) ∧ Below (w.heap.size + 1) (w.alloc (Obj.cells #[.int .i64 a.1, .int .i64 a.2, .int .i64 b.1, .int .i64 b.2, .int .i64 c.1, .int .i64 c.2, .int .i64 d.1, .int .i64 d.2] t (0, 0))) w' := by
 have h := good_new [a, b, c, d] cap w _ t (by unfold maxLen; simp) rfl
 simp only [World.size_alloc] at h
 exact h
theorem good_three (a b c : Int × Int) (cap : Nat) (w : World) (t : TypeId) :
  Calls Tryz.prog 162 #[.slice (some ⟨w.heap.size, 0, none⟩) 3 cap] (w.alloc (Obj.cells #[.int .i64 a.1, .int .i64 a.2, .int .i64 b.1, .int .i64 b.2, .int .i64 c.1, .int .i64 c.2] t (0, 0))) fun e w' => e = .returned (.bool (gdL [a, b, c])) ∧ Below (w.heap.size + 1) (w.alloc (Obj.cells #[.int .i64 a.1, .int .i64 a.2, .int .i64 b.1, .int .i64 b.2, .int .i64 c.1, .int .i64 c.2] t (0, 0))) w' := by
 have h := good_new [a, b, c] cap w _ t (by unfold maxLen; simp) rfl
 simp only [World.size_alloc] at h
 exact h
theorem good_two (a b : Int × Int) (cap : Nat) (w : World) (t : TypeId) :
  Calls Tryz.prog 162 #[.slice (some ⟨w.heap.size, 0, none⟩) 2 cap] (w.alloc (Obj.cells #[.int .i64 a.1, .int .i64 a.2, .int .i64 b.1, .int .i64 b.2] t (0, 0))) fun e w' => e = .returned (.bool (gdL [a, b])) ∧ Below (w.heap.size + 1) (w.alloc (Obj.cells #[.int .i64 a.1, .int .i64 a.2, .int .i64 b.1, .int .i64 b.2] t (0, 0))) w' := by
 have h := good_new [a, b] cap w _ t (by unfold maxLen; simp) rfl
 simp only [World.size_alloc] at h
 exact h
theorem gdL_three {a b c : Int × Int} : gdL [a, b, c] = true ↔ Gd a ∧ Gd b ∧ Gd c := by
 simp only [gdL, List.all_cons, List.all_nil, Bool.and_true, Bool.and_eq_true, gd_iff]
theorem gdL_four {a b c d : Int × Int} : gdL [a, b, c, d] = true ↔ Gd a ∧ Gd b ∧ Gd c ∧ Gd d := by
 simp only [gdL, List.all_cons, List.all_nil, Bool.and_true, Bool.and_eq_true, gd_iff]

set_option maxRecDepth 100000 in
set_option maxHeartbeats 2000000 in
theorem meet_bad (a b c d : Int × Int) (hg : gdL [a, b, c, d] = false) (w : World) :
  Calls Tryz.prog 168 #[.agg #[.int .i64 a.1, .int .i64 a.2], .agg #[.int .i64 b.1, .int .i64 b.2], .agg #[.int .i64 c.1, .int .i64 c.2], .agg #[.int .i64 d.1, .int .i64 d.2]] w fun e w' => e = .returned (.tuple #[.int .i64 0, .int .i64 3]) ∧ Below w.heap.size w w' := by
 have HQ := Hold.four0 w a b c d
 go_enter Tryz.func168, Tryz.ntmps168
 go_upto_region 1 with (fail)
 generalize (World.alloc _ _) = W1 at HQ ⊢
 generalize w.heap.size + 1 + 1 + 1 = g6 at HQ ⊢
 generalize w.heap.size + 1 + 1 = g5 at HQ ⊢
 generalize w.heap.size + 1 = g4 at HQ ⊢
 obtain ⟨f0, f1, f2, f3, f4, f5, f6, f7⟩ := HQ.rd4
 go_wp2_with fail
 go_at_call 162
 refine (good_four a b c d _ _ _).mono ?_
 rintro e w1 ⟨rfl, hB⟩
 replace HQ := (HQ.alloc _).on (hB.mono (by simp only [World.size_alloc]; omega))
 clear hB f0 f1 f2 f3 f4 f5 f6 f7
 go_wp2
 go_ret2
 exact ⟨rfl, HQ.1⟩

set_option maxRecDepth 100000 in
set_option maxHeartbeats 2000000 in
theorem meet_good (a b c d : Int × Int) (hg : gdL [a, b, c, d] = true) (w : World) :
  Calls Tryz.prog 168 #[.agg #[.int .i64 a.1, .int .i64 a.2], .agg #[.int .i64 b.1, .int .i64 b.2], .agg #[.int .i64 c.1, .int .i64 c.2], .agg #[.int .i64 d.1, .int .i64 d.2]] w fun e w' => e = .returned (.tuple #[.int .i64 (meetN a b c d), .int .i64 0]) ∧ Below w.heap.size w w' := by
 obtain ⟨ha, hb, hc, hd⟩ := gdL_four.1 hg
 have hs := fun W => shared_any a b c d ha hb hc hd W
 have hp := fun W => parts_any a b c d ha hb hc hd W
 have hq := fun W => parts_any c d a b hc hd ha hb W
 have HS := Lib.hid hs
 have HP := Lib.hid hp
 have HQ' := Lib.hid hq
 have HN := Lib.hid (show meetN a b c d = if (ends a b c d).length = 0 then (if ptB a b c d && ptB c d a b then 2 else 0) else if oneB (ends a b c d) then 1 else 3 from rfl)
 have hlen : (ends a b c d).length ≤ 4 := by
  have h1 := ends2_len c d [a, b]
  have h2 := ends2_len a b [c, d]
  unfold ends
  rw [List.length_append]
  simp only [List.length_cons, List.length_nil] at h1 h2
  omega
 have HL := Lib.hid (show (ends a b c d).length ≤ maxLen by unfold maxLen; omega)
 clear hs hp hq ha hb hc hd hlen
 have HQ := Hold.four0 w a b c d
 go_enter Tryz.func168, Tryz.ntmps168
 go_upto_region 1 with (fail)
 generalize (World.alloc _ _) = W1 at HQ ⊢
 generalize w.heap.size + 1 + 1 + 1 = g6 at HQ ⊢
 generalize w.heap.size + 1 + 1 = g5 at HQ ⊢
 generalize w.heap.size + 1 = g4 at HQ ⊢
 obtain ⟨f0, f1, f2, f3, f4, f5, f6, f7⟩ := HQ.rd4
 go_wp2_with fail
 go_at_call 162
 refine (good_four a b c d _ _ _).mono ?_
 rintro e w1 ⟨rfl, hB⟩
 replace HQ := (HQ.alloc _).on (hB.mono (by simp only [World.size_alloc]; omega))
 clear hB f0 f1 f2 f3 f4 f5 f6 f7
 obtain ⟨f0, f1, f2, f3, f4, f5, f6, f7⟩ := HQ.rd4
 go_wp2_with fail
 go_at_call 187
 refine (HS.out _).mono ?_
 rintro e w2 ⟨A, cap, rfl, hpt, hB⟩
 replace HQ := HQ.on hB
 have HT := Lib.hid hpt
 clear hB hpt HS f0 f1 f2 f3 f4 f5 f6 f7
 by_cases h0 : (ends a b c d).length = 0
 ·have e0 : (((ends a b c d).length : Int) == 0) = true := by rw [h0]; rfl
  have HK : Hid (meetN a b c d = if ptB a b c d && ptB c d a b then 2 else 0) := by unfold Hid; rw [HN.out, if_pos h0]
  clear HN HT h0
  obtain ⟨f0, f1, f2, f3, f4, f5, f6, f7⟩ := HQ.rd4
  go_wp2_with fail
  go_at_call 188
  refine (HP.out _).mono ?_
  rintro e w3 ⟨rfl, hB⟩
  replace HQ := HQ.on hB
  clear hB HP f0 f1 f2 f3 f4 f5 f6 f7
  cases h1 : ptB a b c d
  ·have HJ : Hid (meetN a b c d = 0) := by unfold Hid; rw [HK.out, h1]; rfl
   clear HK
   go_wp2
   go_ret2
   rw [HJ.out]
   exact ⟨rfl, HQ.1⟩
  ·obtain ⟨f0, f1, f2, f3, f4, f5, f6, f7⟩ := HQ.rd4
   go_wp2_with fail
   go_at_call 188
   refine (HQ'.out _).mono ?_
   rintro e w4 ⟨rfl, hB⟩
   replace HQ := HQ.on hB
   clear hB f0 f1 f2 f3 f4 f5 f6 f7
   cases h2 : ptB c d a b
   ·have HJ : Hid (meetN a b c d = 0) := by unfold Hid; rw [HK.out, h1, h2]; rfl
    clear HK
    go_wp2
    go_ret2
    rw [HJ.out]
    exact ⟨rfl, HQ.1⟩
   ·have HJ : Hid (meetN a b c d = 2) := by unfold Hid; rw [HK.out, h1, h2]; rfl
    clear HK
    go_wp2
    go_ret2
    rw [HJ.out]
    exact ⟨rfl, HQ.1⟩
 ·have e0 : (((ends a b c d).length : Int) == 0) = false := by simpa using h0
  have HK : Hid (meetN a b c d = if oneB (ends a b c d) then 1 else 3) := by unfold Hid; rw [HN.out, if_neg h0]
  clear HN h0
  go_wp2_with fail
  go_at_call 189
  refine (alone_any (ends a b c d) A cap _ HL.out HT.out).mono ?_
  rintro e w3 ⟨rfl, hB⟩
  replace HQ := HQ.on hB
  clear hB HT
  cases h1 : oneB (ends a b c d)
  ·have HJ : Hid (meetN a b c d = 3) := by unfold Hid; rw [HK.out, h1]; rfl
   clear HK
   go_wp2
   go_ret2
   rw [HJ.out]
   exact ⟨rfl, HQ.1⟩
  ·have HJ : Hid (meetN a b c d = 1) := by unfold Hid; rw [HK.out, h1]; rfl
   clear HK
   go_wp2
   go_ret2
   rw [HJ.out]
   exact ⟨rfl, HQ.1⟩
end Go.Proofs.YtjlnjjmomohpaaaGreat

namespace Go.Proofs.YtjlnjjmomohpaaaGreat
open Go.RowKit

section
variable {a b c d x : Int × Int}
theorem mem_ends : x ∈ ends a b c d ↔ (x = a ∨ x = b ∨ x = c ∨ x = d) ∧ OnS a b x ∧ OnS c d x := by
 unfold ends ends2
 simp only [List.mem_append, List.mem_filter, List.mem_cons, List.not_mem_nil, or_false, onB_iff]
 constructor
 ·rintro (⟨rfl | rfl, h⟩ | ⟨rfl | rfl, h⟩)
  ·exact ⟨.inl rfl, on_left _ _, h⟩
  ·exact ⟨.inr (.inl rfl), on_right _ _, h⟩
  ·exact ⟨.inr (.inr (.inl rfl)), h, on_left _ _⟩
  ·exact ⟨.inr (.inr (.inr rfl)), h, on_right _ _⟩
 ·rintro ⟨rfl | rfl | rfl | rfl, h1, h2⟩
  ·exact .inl ⟨.inl rfl, h2⟩
  ·exact .inl ⟨.inr rfl, h2⟩
  ·exact .inr ⟨.inl rfl, h1⟩
  ·exact .inr ⟨.inr rfl, h1⟩
theorem ends_none : (ends a b c d).length = 0 ↔ ¬ M1 a b c d := by
 rw [M1_iff]
 constructor
 ·rintro h ⟨e, h1, h2, h3⟩
  have := mem_ends.2 ⟨h1, h2, h3⟩
  rw [List.length_eq_zero_iff.1 h] at this
  cases this
 ·intro h
  rw [List.length_eq_zero_iff]
  apply List.eq_nil_iff_forall_not_mem.2
  intro e he
  obtain ⟨h1, h2, h3⟩ := mem_ends.1 he
  exact h ⟨e, h1, h2, h3⟩
theorem ends_two (h : M3 a b c d) : ∃ x y, x ∈ ends a b c d ∧ y ∈ ends a b c d ∧ x ≠ y := by
 have ma : OnS c d a → a ∈ ends a b c d := fun h => mem_ends.2 ⟨.inl rfl, on_left _ _, h⟩
 have mb : OnS c d b → b ∈ ends a b c d := fun h => mem_ends.2 ⟨.inr (.inl rfl), on_right _ _, h⟩
 have mc : OnS a b c → c ∈ ends a b c d := fun h => mem_ends.2 ⟨.inr (.inr (.inl rfl)), h, on_left _ _⟩
 have md : OnS a b d → d ∈ ends a b c d := fun h => mem_ends.2 ⟨.inr (.inr (.inr rfl)), h, on_right _ _⟩
 rcases h with ⟨h1, h2, h⟩ | ⟨h1, h2, h⟩ | ⟨h1, h2, h⟩ | ⟨h1, h2, h⟩ | ⟨h1, h2, h⟩ | ⟨h1, h2, h⟩
 ·exact ⟨a, b, ma h1, mb h2, h⟩
 ·exact ⟨a, c, ma h1, mc h2, h⟩
 ·exact ⟨a, d, ma h1, md h2, h⟩
 ·exact ⟨b, c, mb h1, mc h2, h⟩
 ·exact ⟨b, d, mb h1, md h2, h⟩
 ·exact ⟨c, d, mc h1, md h2, h⟩
theorem oneB_iff {ps : List (Int × Int)} : oneB ps = true ↔ ∀ x ∈ ps, ∀ y ∈ ps, x = y := by
 unfold oneB
 simp only [List.all_eq_true, decide_eq_true_eq]
 constructor
 ·intro h x hx y hy
  rw [h x hx, h y hy]
 ·intro h x hx
  cases ps with
  |nil => cases hx
  |cons p q => exact h x hx p List.mem_cons_self
theorem meetN_eq (a b c d : Int × Int) : meetN a b c d = meet a b c d := by
 unfold meetN
 by_cases h0 : (ends a b c d).length = 0
 ·rw [if_pos h0]
  have h1 := ends_none.1 h0
  have h3 : ¬ M3 a b c d := fun h => h1 h.one
  unfold meet
  rw [if_neg h3, if_neg h1]
  by_cases hx : XX a b c d
  ·rw [if_pos hx, if_pos]
   rw [Bool.and_eq_true, ptB_iff, ptB_iff]
   exact hx
  ·rw [if_neg hx, if_neg]
   rw [Bool.and_eq_true, ptB_iff, ptB_iff]
   exact hx
 ·rw [if_neg h0]
  have h1 : M1 a b c d := by
   by_cases h : M1 a b c d
   ·exact h
   ·exact absurd (ends_none.2 h) h0
  by_cases h3 : M3 a b c d
  ·obtain ⟨x, y, hx, hy, hne⟩ := ends_two h3
   rw [if_neg (fun e => hne (oneB_iff.1 e x hx y hy)), meet_three.2 h3]
  ·rw [meet_one h1 h3, if_pos]
   apply oneB_iff.2
   intro x hx y hy
   by_cases hxy : x = y
   ·exact hxy
   ·obtain ⟨-, u1, u2⟩ := mem_ends.1 hx
    obtain ⟨-, v1, v2⟩ := mem_ends.1 hy
    exact absurd (M3_iff.2 ⟨x, y, hxy, u1, u2, v1, v2⟩) h3
end
end Go.Proofs.YtjlnjjmomohpaaaGreat
