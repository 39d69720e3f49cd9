/- Layer ring's own iterator over a ring's edges: its contract. -/
import Derived.RangeFuncNested
import Derived.RangeFuncBound
import Derived.RangeFuncCalls
import Derived.RangeFuncLeaves
import Derived.Shelf.Abstract
import Derived.WalkKit
import Derived.OwnWalkIn
import Derived.TacticsInMore
import Derived.LoopNIn
import Derived.LoopIn
import Derived.Test.YtjlnjjmomohpaaaGreatInside
import Derived.Test.YtjlnjjmomohpaaaGreatRefSide
import Derived.Test.YtjlnjjmomohpaaaGreatPlane
import Derived.Test.YtjlnjjmomohpaaaGreatMeets3
import Derived.Test.YtjlnjjmomohpaaaGreatGeoAns
namespace Go.Proofs.YtjlnjjmomohpaaaGreat
open Go.RowKit Go.Shelf

attribute [local go_sem] Oper.semAt_some

def edV (a b : Int × Int) : Value := .agg #[.int .i64 a.1, .int .i64 a.2, .int .i64 b.1, .int .i64 b.2]
def encE (ps : List (Int × Int)) (x : Fin ps.length) : Array Value := #[.int .i64 (x.1 : Int), edV (nx ps x.1) (nx ps (x.1 + 1))]
def Kept (n₀ : Nat) (W W' : World) : Prop := Below n₀ W W' ∧ ∀ (k : Nat) (cs : Array Value) (t : TypeId) (fz : Nat × Nat), W.heap[k]? = some (Obj.cells cs t fz) → t = 56 ∨ t = 23 → W'.heap[k]? = some (Obj.cells cs t fz)
section
variable {n₀ : Nat} {w W W' X Y Z : World}
theorem Kept.refl (n₀ : Nat) (W : World) : Kept n₀ W W := ⟨Below.refl _ _, fun _ _ _ _ h _ => h⟩
theorem Kept.trans (h : Kept n₀ X Y) (k : Kept n₀ Y Z) : Kept n₀ X Z := ⟨h.1.trans k.1, fun i cs t fz hi ht => k.2 i cs t fz (h.2 i cs t fz hi ht) ht⟩
theorem Kept.put (hn : n₀ ≤ w.heap.size) (W : World) (l : Nat) (o o' : Obj) (hl : w.heap.size ≤ l) (h : W.heap[l]? = some o) (hc : o.isCells = false) (hw : o.isWalk = false) : Kept n₀ W (W.putObj l o') :=
 ⟨belowK_b hn W l o o' hl h hc hw, fun k _ _ _ hk _ => (World.putObj_heap_other (fun e => by subst e; rw [hk] at h; cases h; cases hc)).trans hk⟩
theorem Kept.of_below (h : Below W.heap.size W W') (hn : n₀ ≤ W.heap.size) : Kept n₀ W W' := ⟨h.mono hn, fun k _ _ _ hk _ => (h.block k (blk_lt hk)).trans hk⟩
theorem Kept.set {g : Nat} {cs : Array Value} {t : TypeId} {fz : Nat × Nat} (hg : W.heap[g]? = some (Obj.cells cs t fz)) (h1 : t ≠ 56) (h2 : t ≠ 23) (hn : n₀ ≤ g) (i : Nat) (v : Value) : Kept n₀ W (W.setCell ⟨g, i, none⟩ v) :=
 ⟨(Below.refl n₀ W).setCell (p := ⟨g, i, none⟩) hn _, fun k _ _ _ hk ht => (Below.heap_setCell _ _ _ k (fun e => by
  simp only at e
  subst e; rw [hk] at hg; cases hg
  rcases ht with rfl | rfl
  ·exact h1 rfl
  ·exact h2 rfl)).trans hk⟩
end

theorem take_next {n k : Nat} (h : k < n) : (List.finRange n).take (k + 1) = (List.finRange n).take k ++ [⟨k, h⟩] := by
 rw [List.take_succ_eq_append_getElem (by simpa using h)]
 simp

set_option maxRecDepth 100000 in
set_option maxHeartbeats 4000000 in
theorem edges1_in (F : Fence) (n : Nat) (hf : F.fn 181) (hro : F.round = none) (hn : 1 ≤ n) (l Bs n₀ : Nat) (ps : List (Int × Int)) (A : Option Addr) (cap : Nat) (hlen : ps.length ≤ 128) (J Jx : List (Fin ps.length) → World → Prop) (w W : World) (hJ : AbidesFrom W.heap.size J)
  (hY : ∀ pre x W, J pre W → pre.length < ps.length → YieldAt F (n - 1) Tryz.prog l (encE ps x) W fun e W' =>
   (e = .returned (.bool true) ∧ J (pre ++ [x]) W' ∧ Kept n₀ W W') ∨ (e = .returned (.bool false) ∧ Jx (pre ++ [x]) W'))
  (hn0 : n₀ = w.heap.size) (hp : Pts w n₀ A ps) (hwW : Below n₀ w W) (hb0 : n₀ ≤ Bs) (hBs : W.heap[Bs]? = some (Obj.cells #[.slice A ps.length cap] 23 (0, 0))) (h0 : J [] W) :
  CallsIn F n Tryz.prog 181 #[.func (.yield l) #[] #[], .pointer (some ⟨Bs, 0, none⟩)] W fun e W' => (∃ v, e = .returned v) ∧
   ((∃ ys, ys = List.finRange ps.length ∧ J ys W') ∨ (∃ pre, Jx pre W')) := by
 subst hn0
 have hc0 : W.cell? ⟨Bs, 0, none⟩ = some (.slice A ps.length cap) := blk_cell hBs 0
 refine callsIn_of_wp Tryz.func181 rfl hf ?_ hro
 simp only [Tryz.ntmps181, List.size_toArray, List.length_cons, List.length_nil, Nat.reduceAdd, Nat.reduceSub, Array.replicate_succ, Array.replicate_zero, List.push_toArray, List.append_toArray, List.nil_append, List.cons_append]
 gi_wp2
 gi_loopw [7] (fun i wr => ∃ k : Nat, k ≤ ps.length ∧ i = .int .i64 k ∧ J ((List.finRange ps.length).take k) wr ∧ Kept w.heap.size W wr)
  (fun i _ => ps.length - (intOf i).toNat)
 case atStart => exact ⟨0, Nat.zero_le _, rfl, h0, Kept.refl _ _⟩
 case round =>
  obtain ⟨k, hk, rfl, hJs, hK⟩ := hrel
  by_cases hlt : k < ps.length
  ·obtain ⟨j, hj, hj1, hj2, hj3⟩ := next_place hlt
   have hBw := hwW.trans hK.1
   obtain ⟨ad, rfl, hadb, d0, d1⟩ := hp.nx hBw hlt (Nat.mod_eq_of_lt hlt)
   obtain ⟨ad', e, -, e0, e1⟩ := hp.nx hBw hj hj1
   obtain rfl := Option.some.inj e
   have hBr : wr.heap[Bs]? = some (Obj.cells #[.slice (some ad) ps.length cap] 23 (0, 0)) := hK.2 _ _ _ _ hBs (.inr rfl)
   have hcb : wr.cell? ⟨Bs, 0, none⟩ = some (.slice (some ad) ps.length cap) := blk_cell hBr 0
   gi_wp2_with fail
   have hbr : Bs < wr.heap.size := blk_lt hBr
   have HW : ∀ i u, wr.cell? i = some u → (wr.alloc (Obj.cells #[Value.int IntKind.i64 (nx ps k).fst, Value.int IntKind.i64 (nx ps k).snd] 56)).cell? i = some u := fun i u h => cell_kept h (World.grownBy_alloc wr _ none) (fun r e => by cases e)
   have c0 : (wr.alloc (Obj.cells #[Value.int IntKind.i64 (nx ps k).fst, Value.int IntKind.i64 (nx ps k).snd] 56)).cell? ⟨wr.heap.size, 0, none⟩ = some (.int .i64 (nx ps k).1) := blk_cell (heap_alloc_new _ _) 0
   have c1 : (wr.alloc (Obj.cells #[Value.int IntKind.i64 (nx ps k).fst, Value.int IntKind.i64 (nx ps k).snd] 56)).cell? ⟨wr.heap.size, 1, none⟩ = some (.int .i64 (nx ps k).2) := blk_cell (heap_alloc_new _ _) 1
   have hJ2 := hJ _ wr (wr.alloc (Obj.cells #[Value.int IntKind.i64 (nx ps k).fst, Value.int IntKind.i64 (nx ps k).snd] 56)).drew none hJs ⟨rfl, rfl, rfl, by simp [World.drew], fun i hi _ => Below.heap_alloc wr _ i hi⟩ (fun r e => by cases e)
   have hK2 : Kept w.heap.size W (wr.alloc (Obj.cells #[Value.int IntKind.i64 (nx ps k).fst, Value.int IntKind.i64 (nx ps k).snd] 56)).drew := hK.trans (Kept.of_below (((Below.refl wr.heap.size wr).alloc (Nat.le_refl _) _).drew) (by omega))
   have hN2 := heap_alloc_new wr (Obj.cells #[Value.int IntKind.i64 (nx ps k).fst, Value.int IntKind.i64 (nx ps k).snd] 56)
   have hB2 := blk_alloc hBr (Obj.cells #[Value.int IntKind.i64 (nx ps k).fst, Value.int IntKind.i64 (nx ps k).snd] 56)
   replace e0 := HW _ _ e0
   replace e1 := HW _ _ e1
   replace hcb := HW _ _ hcb
   clear HW
   generalize (wr.alloc (Obj.cells #[Value.int IntKind.i64 (nx ps k).fst, Value.int IntKind.i64 (nx ps k).snd] 56)) = W2 at *
   obtain ⟨fn, tmps, assign, body, hy, hR⟩ := hY _ ⟨k, hlt⟩ W2.drew hJ2 (by rw [List.length_take, List.length_finRange]; omega)
   unfold encE edV at hy
   dsimp only at hy
   refine Draws.start (X := [12, 13]) (S := fun w' => w'.cell? ⟨wr.heap.size, 0, none⟩ = some (.int .i64 (nx ps k).1) ∧ w'.cell? ⟨wr.heap.size, 1, none⟩ = some (.int .i64 (nx ps k).2) ∧ w'.cell? ⟨Bs, 0, none⟩ = some (.slice (some ad) ps.length cap) ∧ w'.cell? (ad.add (j * 2)) = some (.int .i64 (nx ps (k + 1)).1) ∧ w'.cell? ⟨(ad.add (j * 2)).block, (ad.add (j * 2)).off + 1, none⟩ = some (.int .i64 (nx ps (k + 1)).2)) (by kernel_rfl) ?_
   have hHeld : (fun w' : World => w'.cell? ⟨wr.heap.size, 0, none⟩ = some (.int .i64 (nx ps k).1) ∧ w'.cell? ⟨wr.heap.size, 1, none⟩ = some (.int .i64 (nx ps k).2) ∧ w'.cell? ⟨Bs, 0, none⟩ = some (.slice (some ad) ps.length cap) ∧ w'.cell? (ad.add (j * 2)) = some (.int .i64 (nx ps (k + 1)).1) ∧ w'.cell? ⟨(ad.add (j * 2)).block, (ad.add (j * 2)).off + 1, none⟩ = some (.int .i64 (nx ps (k + 1)).2)) W2.drew := ⟨c0, c1, hcb, e0, e1⟩
   have hk0 : IntKind.i64.wrap ((k : Int) + 1) = (k : Int) + 1 := by rw [IntKind.wrap_i64]; omega
   have hn1 : ¬ ps.length = 0 := by omega
   have hn2 : ¬ ps = [] := by rintro rfl; simp at hn1
   refine Draws.take (i := 0) (v := ?_) (by decide +kernel) rfl (by rfl) (fun _ => rfl) (by decide +kernel) (by decide +kernel) (by decide +kernel) (by decide +kernel) (fun _ _ _ h => h) (by assumption) ?_ ?_
   rotate_left
   focus (intro w0 hSw; (try dsimp only at hSw); go_simp; (try (with_reducible rfl)); done)
   (try simp only [Act.put, jA, jB, jD, jE, jF])
   refine Draws.take (i := 1) (v := ?_) (by decide +kernel) rfl (by rfl) (fun _ => rfl) (by decide +kernel) (by decide +kernel) (by decide +kernel) (by decide +kernel) (fun _ _ _ h => h) (by assumption) ?_ ?_
   rotate_left
   focus (intro w0 hSw; (try dsimp only at hSw); go_simp; (try (with_reducible rfl)); done)
   (try simp only [Act.put, jA, jB, jC, jD, jE, jF])
   refine Draws.take (i := 2) (v := ?_) (by decide +kernel) rfl (by rfl) (fun _ => rfl) (by decide +kernel) (by decide +kernel) (by decide +kernel) (by decide +kernel) (fun _ _ _ h => h) (by assumption) ?_ ?_
   rotate_left
   focus (intro w0 hSw; (try dsimp only at hSw); go_simp; (try (with_reducible rfl)); done)
   (try simp only [Act.put, jA, jB, jC, jD, jE, jF])
   refine Draws.take (i := 3) (v := ?_) (by decide +kernel) rfl (by rfl) (fun _ => rfl) (by decide +kernel) (by decide +kernel) (by decide +kernel) (by decide +kernel) (fun _ _ _ h => h) (by assumption) ?_ ?_
   rotate_left
   focus (intro w0 hSw; (try dsimp only at hSw); go_simp; (try (with_reducible rfl)); done)
   (try simp only [Act.put, jA, jB, jC, jD, jE, jF])
   refine Draws.take (i := 4) (v := ?_) (by decide +kernel) rfl (by rfl) (fun _ => rfl) (by decide +kernel) (by decide +kernel) (by decide +kernel) (by decide +kernel) (fun _ _ _ h => h) (by assumption) ?_ ?_
   rotate_left
   focus (intro w0 hSw; (try dsimp only at hSw); go_simp; (try (with_reducible rfl)); done)
   (try simp only [Act.put, jA, jB, jC, jD, jE, jF])
   refine Draws.take (i := 5) (v := ?_) (by decide +kernel) rfl (by rfl) (fun _ => rfl) (by decide +kernel) (by decide +kernel) (by decide +kernel) (by decide +kernel) (fun _ _ _ h => h) (by assumption) ?_ ?_
   rotate_left
   focus (intro w0 hSw; (try dsimp only at hSw); go_simp; (try (with_reducible rfl)); done)
   (try simp only [Act.put, jA, jB, jC, jD, jE, jF])
   refine Draws.take (i := 6) (v := ?_) (by decide +kernel) rfl (by rfl) (fun _ => rfl) (by decide +kernel) (by decide +kernel) (by decide +kernel) (by decide +kernel) (fun _ _ _ h => h) (by assumption) ?_ ?_
   rotate_left
   focus (intro w0 hSw; (try dsimp only at hSw); go_simp; (try (with_reducible rfl)); done)
   (try simp only [Act.put, jA, jB, jC, jD, jE, jF])
   refine Draws.take (i := 7) (v := ?_) (by decide +kernel) rfl (by rfl) (fun _ => rfl) (by decide +kernel) (by decide +kernel) (by decide +kernel) (by decide +kernel) (fun _ _ _ h => h) (by assumption) ?_ ?_
   rotate_left
   focus (intro w0 hSw; (try dsimp only at hSw); go_simp; (try (with_reducible rfl)); done)
   (try simp only [Act.put, jA, jB, jC, jD, jE, jF])
   refine Draws.take (i := 8) (v := ?_) (by decide +kernel) rfl (by rfl) (fun _ => rfl) (by decide +kernel) (by decide +kernel) (by decide +kernel) (by decide +kernel) (fun _ _ _ h => h) (by assumption) ?_ ?_
   rotate_left
   focus (intro w0 hSw; (try dsimp only at hSw); go_simp; (try (with_reducible rfl)); done)
   (try simp only [Act.put, jA, jB, jC, jD, jE, jF])
   refine Draws.take (i := 9) (v := ?_) (by decide +kernel) rfl (by rfl) (fun _ => rfl) (by decide +kernel) (by decide +kernel) (by decide +kernel) (by decide +kernel) (fun _ _ _ h => h) (by assumption) ?_ ?_
   rotate_left
   focus (intro w0 hSw; (try dsimp only at hSw); go_simp; (try (with_reducible rfl)); done)
   (try simp only [Act.put, jA, jB, jC, jD, jE, jF])
   refine Draws.take (i := 10) (v := ?_) (by decide +kernel) rfl (by rfl) (fun _ => rfl) (by decide +kernel) (by decide +kernel) (by decide +kernel) (by decide +kernel) (fun _ _ _ h => h) (by assumption) ?_ ?_
   rotate_left
   focus (intro w0 hSw; (try dsimp only at hSw); go_simp; (try (with_reducible rfl)); done)
   (try simp only [Act.put, jA, jB, jC, jD, jE, jF])
   refine Draws.take (i := 11) (v := ?_) (by decide +kernel) rfl (by rfl) (fun _ => rfl) (by decide +kernel) (by decide +kernel) (by decide +kernel) (by decide +kernel) (fun _ _ _ h => h) (by assumption) ?_ ?_
   rotate_left
   focus (intro w0 hSw; (try dsimp only at hSw); go_simp; (try (with_reducible rfl)); done)
   (try simp only [Act.put, jA, jB, jC, jD, jE, jF])
   refine Draws.one (i := 12) (by decide +kernel) rfl (by rfl) (fun K hKK => ?_)
   go_simp
   refine hR.mono ?_
   rintro e W3 (⟨rfl, hJ3, hk3⟩ | ⟨rfl, hJx3⟩)
   ·have hJ4 := hJ3
    rw [← take_next hlt] at hJ4
    refine hKK.out _ _ (fun h => absurd (by decide) h) ?_
    (try simp only [Act.put, jA, jB, jC, jD, jE, jF])
    refine Draws.one (i := 13) (by decide +kernel) rfl (by rfl) (fun K hKK => ?_)
    go_simp
    refine hKK.out _ _ (fun h => absurd (by decide) h) ?_
    (try simp only [Act.put, jA, jB, jC, jD, jE, jF])
    refine Draws.done (by decide +kernel) ?_ _
    clear hKK
    gi_wp2
    go_roundw
    case rel => exact ⟨k + 1, by omega, by simp, hJ4, hK2.trans hk3⟩
    case measure => simp [intOf]; omega
   ·refine hKK.out _ _ (fun h => absurd (by decide) h) ?_
    (try simp only [Act.put, jA, jB, jC, jD, jE, jF])
    refine Draws.one (i := 13) (by decide +kernel) rfl (by rfl) (fun K hKK => ?_)
    go_simp
    refine hKK.out _ _ (fun h => absurd (by decide) h) ?_
    (try simp only [Act.put, jA, jB, jC, jD, jE, jF])
    refine Draws.done (by decide +kernel) ?_ _
    clear hKK
    gi_wp2
    refine bodyPost_ret (results_none rfl _ _ _) rfl ?_
    exact ⟨⟨_, rfl⟩, .inr ⟨_, hJx3⟩⟩
  ·obtain rfl : k = ps.length := by omega
   gi_wp2
   go_end0
   rw [List.take_of_length_le (by simp)] at hJs
   exact ⟨⟨_, rfl⟩, .inl ⟨_, rfl, hJs⟩⟩

set_option maxHeartbeats 1000000 in
theorem edges_in (F : Fence) (n : Nat) (hf : F.fn 163) (hro : F.round = none) (A : Option Addr) (len cap : Nat) (w : World) :
  CallsIn F n Tryz.prog 163 #[.slice A len cap] w fun e w' => e = .returned (.func (.func 181) #[] #[.pointer (some ⟨w.heap.size, 0, none⟩)]) ∧ w' = w.alloc (.cells #[.slice A len cap] 23) := by
 refine callsIn_of_wp Tryz.func163 rfl hf ?_ hro
 simp only [Tryz.ntmps163, List.size_toArray, List.length_cons, List.length_nil, Nat.reduceAdd, Nat.reduceSub, Array.replicate_succ, Array.replicate_zero, List.push_toArray, List.append_toArray, List.nil_append, List.cons_append]
 gi_wp2
 go_ret
 exact ⟨rfl, rfl⟩
theorem edges_stops (F : Fence) (n : Nat) (hf : F.fn 181) (hro : F.round = none) (hn : 1 ≤ n) (Bs : Nat) (ps : List (Int × Int)) (A : Option Addr) (cap : Nat) (hlen : ps.length ≤ 128) (w w1 : World)
  (hp : Pts w w.heap.size A ps) (hw : Below w.heap.size w w1) (hb0 : w.heap.size ≤ Bs) (hBs : w1.heap[Bs]? = some (Obj.cells #[.slice A ps.length cap] 23 (0, 0))) :
  SeqStopsK F n Tryz.prog 181 #[.pointer (some ⟨Bs, 0, none⟩)] (encE ps) (Kept w.heap.size) (fun ys => ys = List.finRange ps.length) (fun _ => True) ps.length w1 := fun l J Jx W hW hJ _ hY h0 =>
 (edges1_in F n hf hro hn l Bs w.heap.size ps A cap hlen J Jx w W hJ hY rfl hp (hw.trans (hW.mono hw.size)) hb0 ((hW.block _ (blk_lt hBs)).trans hBs) h0).mono fun _ _ ⟨h1, h2⟩ => ⟨h1, h2.imp id (fun ⟨pre, h⟩ => ⟨pre, trivial, h⟩)⟩
theorem hold_own {β : Type} {w : World} {B : Nat} (hB : w.heap.size ≤ B) (L : β → List (Nat × Array Value × TypeId)) : OwnFrom B (fun s W => Hold w (L s) W) := fun s X Y row hs hg hr =>
 ⟨hs.1.grown hg hs.1.size (fun k e => Nat.le_trans hB (hr k e).1), fun e he => ⟨(hg.block _ (blk_lt (hs.2.1 e he).1) (fun e' => by
  obtain ⟨-, o, ho, hc⟩ := hr _ e'.symm
  rw [(hs.2.1 e he).1] at ho
  cases ho; cases hc)).trans (hs.2.1 e he).1, (hs.2.1 e he).2⟩, hs.2.2⟩
theorem KeepsFrom.of_below {B : Nat} {W W' : World} (h : Below W.heap.size W W') : KeepsFrom B W W' := ⟨h.size, fun k _ _ hk _ => (h.block k (Array.getElem?_eq_some_iff.1 hk).1).trans hk⟩
end Go.Proofs.YtjlnjjmomohpaaaGreat

namespace Go.Proofs.YtjlnjjmomohpaaaGreat
open Go.RowKit

def flw (i j n : Nat) : Bool := decide (j - i = 1 ∨ j - i = n - 1)
def fitV (a b c d : Int × Int) (f : Bool) : Bool := decide (meetN a b c d = if f then 1 else 0)

set_option maxHeartbeats 800000 in
theorem follow_any (i j n : Nat) (hij : i < j) (hj : j < n) (hn : n ≤ 128) (w : World) :
  Calls Tryz.prog 172 #[.int .i64 i, .int .i64 j, .int .i64 n] w fun e w' => e = .returned (.bool (flw i j n)) ∧ w' = w := by
 have e1 : IntKind.i64.wrap ((j : Int) - i) = (j : Int) - i := by rw [IntKind.wrap_i64]; omega
 have e2 : IntKind.i64.wrap ((n : Int) - 1) = (n : Int) - 1 := by rw [IntKind.wrap_i64]; omega
 unfold flw
 by_cases h1 : j - i = 1
 ·have h2 : (j : Int) - i = 1 := by omega
  rw [decide_eq_true (.inl h1)]
  go_enter Tryz.func172, Tryz.ntmps172
  go_wp2
  go_ret
  exact ⟨rfl, rfl⟩
 ·have h2 : ¬ (j : Int) - i = 1 := by omega
  by_cases h3 : j - i = n - 1
  ·have h4 : (j : Int) - i = (n : Int) - 1 := by omega
   rw [decide_eq_true (.inr h3)]
   go_enter Tryz.func172, Tryz.ntmps172
   go_wp2
   go_ret
   exact ⟨rfl, rfl⟩
  ·have h4 : ¬ (j : Int) - i = (n : Int) - 1 := by omega
   rw [decide_eq_false (by omega)]
   go_enter Tryz.func172, Tryz.ntmps172
   go_wp2
   go_ret
   exact ⟨by simp [h2, h4], rfl⟩
theorem Hold.top1 {w W : World} {L : List (Nat × Array Value × TypeId)} {g : Nat} {t : TypeId} {x : Value} (h : Hold w ((g, #[x], t) :: L) W) : W.cell? ⟨g, 0, none⟩ = some x ∧ W.frozen? ⟨g, 0, none⟩ = false :=
 ⟨h.cell List.mem_cons_self 0, h.frozen List.mem_cons_self 0⟩
theorem Hold.four {w W : World} {L : List (Nat × Array Value × TypeId)} {g : Nat} {t : TypeId} {x y z u : Value} (h : Hold w L W) (hm : (g, #[x, y, z, u], t) ∈ L) :
  W.cell? ⟨g, 0, none⟩ = some x ∧ W.cell? ⟨g, 1, none⟩ = some y ∧ W.cell? ⟨g, 2, none⟩ = some z ∧ W.cell? ⟨g, 3, none⟩ = some u := ⟨h.cell hm 0, h.cell hm 1, h.cell hm 2, h.cell hm 3⟩

set_option maxHeartbeats 800000 in
theorem fit_any (a b c d : Int × Int) (ha : Gd a) (hb : Gd b) (hc : Gd c) (hd : Gd d) (f : Bool) (w : World) :
  Calls Tryz.prog 171 #[edV a b, edV c d, .bool f] w fun e w' => e = .returned (.bool (fitV a b c d f)) ∧ Below w.heap.size w w' := by
 have HQ := ((Hold.refl w).new #[.int .i64 a.1, .int .i64 a.2, .int .i64 b.1, .int .i64 b.2] 76).new' #[.int .i64 c.1, .int .i64 c.2, .int .i64 d.1, .int .i64 d.2] 76 (n := w.heap.size + 1) (by simp only [World.size_alloc])
 have HM := Lib.hid (fun W => by
  have := Meet_any a b c d W
  unfold mv me at this
  rw [if_pos (gdL_four.2 ⟨ha, hb, hc, hd⟩), if_pos (gdL_four.2 ⟨ha, hb, hc, hd⟩)] at this
  exact this)
 unfold edV fitV
 obtain ⟨c0, c1, c2, c3⟩ := HQ.four (.tail _ (.head _))
 obtain ⟨d0, d1, d2, d3⟩ := HQ.four (.head _)
 cases f
 ·go_enter Tryz.func171, Tryz.ntmps171
  go_wp2_with (go_at_call 168; go_must (refine (HM.out _).mono ?_; rintro e w1 ⟨rfl, hB⟩))
  go_ret
  exact ⟨by simp only [Array.getD_eq_getD_getElem?, List.getElem?_toArray, List.getElem?_cons_zero, List.getElem?_cons_succ, Option.getD_some]; rfl, (HQ.on (hB.mono (by simp only [World.size_alloc]; omega))).1⟩
 ·go_enter Tryz.func171, Tryz.ntmps171
  go_wp2_with (go_at_call 168; go_must (refine (HM.out _).mono ?_; rintro e w1 ⟨rfl, hB⟩))
  go_ret
  exact ⟨by simp only [Array.getD_eq_getD_getElem?, List.getElem?_toArray, List.getElem?_cons_zero, List.getElem?_cons_succ, Option.getD_some]; rfl, (HQ.on (hB.mono (by simp only [World.size_alloc]; omega))).1⟩

end Go.Proofs.YtjlnjjmomohpaaaGreat

namespace Go.Proofs.YtjlnjjmomohpaaaGreat
open Go.RowKit Go.Shelf

attribute [local go_sem] Oper.semAt_some

def fitB (ps : List (Int × Int)) (i j : Nat) : Bool := fitV (nx ps i) (nx ps (i + 1)) (nx ps j) (nx ps (j + 1)) (flw i j ps.length)
def AllFit (ps : List (Int × Int)) : Prop := ∀ i j, i < j → j < ps.length → fitB ps i j = true
theorem blk_own {β : Type} {B g : Nat} {cs : Array Value} {t : TypeId} : OwnFrom B (fun (_ : β) W => W.heap[g]? = some (Obj.cells cs t (0, 0))) := fun _ X Y row hs hg hr => (hg.block _ (blk_lt hs) (fun e => by
 obtain ⟨-, o, ho, hc⟩ := hr _ e.symm
 rw [hs] at ho; cases ho; cases hc)).trans hs
theorem kept_own {β : Type} {n₀ B : Nat} {w₀ : World} (hn : n₀ ≤ w₀.heap.size) (hB : n₀ ≤ B) : OwnFrom B (fun (_ : β) W => Kept n₀ w₀ W) := fun s X Y row hs hg hr =>
 ⟨ownFrom_below hn hB s X Y row hs.1 hg hr, fun k cs t fz hk ht => (hg.block _ (blk_lt (hs.2 k cs t fz hk ht)) (fun e => by
  obtain ⟨-, o, ho, hc⟩ := hr _ e.symm
  rw [hs.2 k cs t fz hk ht] at ho; cases ho; cases hc)).trans (hs.2 k cs t fz hk ht)⟩
def Stays (w : World) (A : Option Addr) (n cap : Nat) (W : World) : Prop := Hold w [(w.heap.size + 1 + 1, #[.slice A n cap], 23), (w.heap.size + 1, #[.bool false], 4), (w.heap.size, #[.slice A n cap], 23)] W

set_option maxRecDepth 100000 in
set_option maxHeartbeats 8000000 in
theorem simple_any (ps : List (Int × Int)) (A : Option Addr) (cap : Nat) (hn : ps.length ≤ 128) (hg : gdL ps = true) (w : World) (hr : Pts w w.heap.size A ps) :
  Calls Tryz.prog 138 #[.slice A ps.length cap] w fun e w' => ∃ b, e = .returned (.bool b) ∧ (b = true ↔ AllFit ps) ∧ Below w.heap.size w w' := by
 have HS : Stays w A ps.length cap (((w.alloc (Obj.cells #[.slice A ps.length cap] 23)).alloc (Obj.cells #[.bool false] 4)).alloc (Obj.cells #[.slice A ps.length cap] 23)) :=
  (((Hold.refl w).new #[.slice A ps.length cap] 23).new' #[.bool false] 4 (by simp)).new' #[.slice A ps.length cap] 23 (by simp)
 refine (callsIn_wide (n := 16)).1 ?_
 refine callsIn_of_wp_marks Tryz.func138 rfl trivial ?_ rfl
 simp only [Tryz.ntmps138, List.size_toArray, List.length_cons, List.length_nil, Nat.reduceAdd, Nat.reduceSub, Array.replicate_succ, Array.replicate_zero, List.push_toArray, List.append_toArray, List.nil_append, List.cons_append]
 gi_wp2_with (refine ⟨trivial, ?_⟩; gi_at_call 163; go_must (refine (edges_in Fence.wide _ trivial rfl _ _ _ _).mono ?_; rintro e w' ⟨rfl, rfl⟩))
 have hsz : (((w.alloc (Obj.cells #[.slice A ps.length cap] 23)).alloc (Obj.cells #[.bool false] 4)).alloc (Obj.cells #[.slice A ps.length cap] 23)).heap.size = w.heap.size + 1 + 1 + 1 := by simp
 obtain ⟨W0, hW0⟩ : ∃ W0, (((w.alloc (Obj.cells #[.slice A ps.length cap] 23)).alloc (Obj.cells #[.bool false] 4)).alloc (Obj.cells #[.slice A ps.length cap] 23)) = W0 := ⟨_, rfl⟩
 rw [hW0] at hsz HS ⊢
 clear hW0
 replace hsz : w.heap.size + 3 ≤ W0.heap.size := by omega
 refine wpIn_rangeFunc_ownH rfl (by omega) (gf := 181) (lb := #[.pointer (some ⟨w.heap.size + 1 + 1, 0, none⟩)]) rfl trivial (enters_of Tryz.func181 (by kernel_rfl) rfl)
  (edges_stops Fence.wide 15 trivial rfl (by omega) (w.heap.size + 1 + 1) ps A cap hn w W0 hr HS.1 (by omega) (HS.2.1 _ (.head _)).1) Kept.trans (Kept.put (by omega)) (Below.refl _ _) (fun _ => rfl)
  (fun pre W => Stays w A ps.length cap W ∧ ∀ x ∈ pre, ∀ j, x.1 < j → j < ps.length → fitB ps x.1 j = true)
  (fun c _ W => c = .ret ∧ Stays w A ps.length cap W ∧ ¬ AllFit ps)
  (OwnFrom.and (hold_own (by omega) _) (ownFrom_pure _ _))
  (fun c s X Y row hs hg hr => ⟨hs.1, hold_own (by omega) (fun (_ : Unit) => _) () X Y row hs.2.1 hg hr, hs.2.2⟩)
  ⟨HS, fun x hx => by cases hx⟩
  (fun x a' W => ∃ B1 B2, W.heap[B1]? = some (Obj.cells #[.int .i64 (x.1 : Int)] 3 (0, 0)) ∧ W.heap[B2]? = some (Obj.cells #[.int .i64 (nx ps x.1).1, .int .i64 (nx ps x.1).2, .int .i64 (nx ps (x.1 + 1)).1, .int .i64 (nx ps (x.1 + 1)).2] 76 (0, 0)) ∧ a' = { tmps := #[.slice A ps.length cap, .pointer (some ⟨w.heap.size, 0, none⟩), .pointer (some ⟨w.heap.size + 1, 0, none⟩), .pointer (some ⟨B1, 0, none⟩), .pointer (some ⟨B2, 0, none⟩), undef, undef, .slice A ps.length cap, .func (.func 181) #[] #[.pointer (some ⟨w.heap.size + 1 + 1, 0, none⟩)], .int .i64 (x.1 : Int), edV (nx ps x.1) (nx ps (x.1 + 1)), undef, undef, undef, undef, undef, undef, undef, undef, undef, undef, undef, undef, undef, undef, undef, undef, undef, undef], defers := [] })
  (fun x a' s X Y row hs hg hr => by
   obtain ⟨B1, B2, h1, h2, h3⟩ := hs
   exact ⟨B1, B2, blk_own s X Y row h1 hg hr, blk_own s X Y row h2 hg hr, h3⟩)
  ?assign ?body ?done ?stop
 case assign =>
  rintro l pre x W K ⟨hS, hp⟩ hK
  unfold encE edV
  have hb : Below W.heap.size W ((W.alloc (Obj.cells #[.int .i64 (x.1 : Int)] 3)).alloc (Obj.cells #[.int .i64 (nx ps x.1).1, .int .i64 (nx ps x.1).2, .int .i64 (nx ps (x.1 + 1)).1, .int .i64 (nx ps (x.1 + 1)).2] 76)) := ((Below.refl _ W).alloc (Nat.le_refl _) _).alloc (by simp) _
  have hn1 := blk_alloc (heap_alloc_new W (Obj.cells #[.int .i64 (x.1 : Int)] 3 (0, 0))) (Obj.cells #[.int .i64 (nx ps x.1).1, .int .i64 (nx ps x.1).2, .int .i64 (nx ps (x.1 + 1)).1, .int .i64 (nx ps (x.1 + 1)).2] 76 (0, 0))
  have hn2 := heap_alloc_new (W.alloc (Obj.cells #[.int .i64 (x.1 : Int)] 3 (0, 0))) (Obj.cells #[.int .i64 (nx ps x.1).1, .int .i64 (nx ps x.1).2, .int .i64 (nx ps (x.1 + 1)).1, .int .i64 (nx ps (x.1 + 1)).2] 76 (0, 0))
  gi_wp2
  exact hK _ _ (KeepsFrom.of_below hb) (Kept.of_below hb hS.1.size) ⟨hS.on hb, hp⟩ ⟨W.heap.size, W.heap.size + 1, hn1, (by rwa [World.size_alloc] at hn2), rfl⟩
 case body =>
  rintro l pre x a' W hl ⟨r, hr'⟩ ⟨hS, hp⟩ ⟨B1, B2, hb1, hb2, rfl⟩ hlt
  have y0 := hS.cell (.tail _ (.tail _ (.head _))) 0
  simp only [List.getElem?_toArray, List.getElem?_cons_zero] at y0
  gi_wp2_with (refine ⟨trivial, ?_⟩; gi_at_call 163; go_must (refine (CallsIn.inRound l (edges_in Fence.wide _ trivial rfl _ _ _ _)).mono ?_; rintro e w' ⟨rfl, rfl⟩))
  have hS1 : Stays w A ps.length cap (W.alloc (Obj.cells #[.slice A ps.length cap] 23)) := hS.alloc _
  have hb1' := blk_alloc hb1 (Obj.cells #[.slice A ps.length cap] 23 (0, 0))
  have hb2' := blk_alloc hb2 (Obj.cells #[.slice A ps.length cap] 23 (0, 0))
  have hrl := blk_alloc hr' (Obj.cells #[.slice A ps.length cap] 23 (0, 0))
  have hbn := heap_alloc_new W (Obj.cells #[.slice A ps.length cap] 23 (0, 0))
  have hbw : Below W.heap.size W (W.alloc (Obj.cells #[.slice A ps.length cap] 23)) := (Below.refl _ W).alloc (Nat.le_refl _) _
  have hsW : (W.alloc (Obj.cells #[.slice A ps.length cap] 23)).heap.size = W.heap.size + 1 := by simp
  obtain ⟨W1, hW1⟩ : ∃ W1, (W.alloc (Obj.cells #[.slice A ps.length cap] 23)) = W1 := ⟨_, rfl⟩
  rw [hW1] at hS1 hb1' hb2' hrl hbn hbw hsW ⊢
  clear hW1 y0
  have hwW := hS.1.size
  have hlW : l < W.heap.size := blk_lt hr'
  refine wpIn_rangeFunc_ownN (l₀ := l) (r₀ := r) rfl hrl (by omega) (gf := 181) (lb := #[.pointer (some ⟨W.heap.size, 0, none⟩)]) rfl trivial (enters_of Tryz.func181 (by kernel_rfl) rfl)
   ((edges_stops Fence.wide 13 trivial rfl (by omega) W.heap.size ps A cap hn w W1 hr hS1.1 hwW hbn).inRound l) Kept.trans (Kept.put (by omega)) (Below.refl _ _) (fun _ => rfl)
   (fun pre' W' => ((Stays w A ps.length cap W' ∧ W'.heap[B1]? = some (Obj.cells #[.int .i64 (x.1 : Int)] 3 (0, 0)) ∧ W'.heap[B2]? = some (Obj.cells #[.int .i64 (nx ps x.1).1, .int .i64 (nx ps x.1).2, .int .i64 (nx ps (x.1 + 1)).1, .int .i64 (nx ps (x.1 + 1)).2] 76 (0, 0))) ∧ (Kept w.heap.size W W' ∧ KeepsFrom W0.heap.size W W')) ∧ ∀ y ∈ pre', x.1 < y.1 → fitB ps x.1 y.1 = true)
   (fun c _ W' => (c = .ret ∧ Stays w A ps.length cap W' ∧ ¬ AllFit ps) ∧ KeepsFrom W0.heap.size W W')
   (OwnFrom.and (OwnFrom.and (OwnFrom.and (hold_own (by omega) _) (OwnFrom.and blk_own blk_own)) (OwnFrom.and (kept_own hwW (by omega)) (ownFrom_keepsFrom (by omega)))) (ownFrom_pure _ _))
   (fun c => OwnFrom.and (fun s X Y row hs hg hr => ⟨hs.1, hold_own (by omega) (fun (_ : Unit) => _) () X Y row hs.2.1 hg hr, hs.2.2⟩) (ownFrom_keepsFrom (by omega)))
   ⟨⟨⟨hS1, hb1', hb2'⟩, Kept.of_below hbw hwW, KeepsFrom.of_below hbw⟩, fun y hy => by cases hy⟩
   (fun y a' W' => ∃ B4, W'.heap[B4]? = some (Obj.cells #[.int .i64 (nx ps y.1).1, .int .i64 (nx ps y.1).2, .int .i64 (nx ps (y.1 + 1)).1, .int .i64 (nx ps (y.1 + 1)).2] 76 (0, 0)) ∧ a' = { tmps := #[.slice A ps.length cap, .pointer (some ⟨w.heap.size, 0, none⟩), .pointer (some ⟨w.heap.size + 1, 0, none⟩), .pointer (some ⟨B1, 0, none⟩), .pointer (some ⟨B2, 0, none⟩), .int .i64 (y.1 : Int), .pointer (some ⟨B4, 0, none⟩), .slice A ps.length cap, .func (.func 181) #[] #[.pointer (some ⟨w.heap.size + 1 + 1, 0, none⟩)], .int .i64 (x.1 : Int), edV (nx ps x.1) (nx ps (x.1 + 1)), .slice A ps.length cap, .func (.func 181) #[] #[.pointer (some ⟨W.heap.size, 0, none⟩)], .int .i64 (y.1 : Int), edV (nx ps y.1) (nx ps (y.1 + 1)), undef, undef, undef, undef, undef, undef, undef, undef, undef, undef, undef, undef, undef, undef], defers := [] })
   (fun x a' s X Y row hs hg hr => by
    obtain ⟨B4, h1, h2⟩ := hs
    exact ⟨B4, blk_own s X Y row h1 hg hr, h2⟩)
   ?assign2 ?body2 ?done2 ?stop2
  case assign2 =>
   rintro l2 pre' y W' K ⟨⟨⟨hS2, hc1, hc2⟩, hk, hf⟩, hq⟩ hK
   unfold encE edV
   have hb : Below W'.heap.size W' (W'.alloc (Obj.cells #[.int .i64 (nx ps y.1).1, .int .i64 (nx ps y.1).2, .int .i64 (nx ps (y.1 + 1)).1, .int .i64 (nx ps (y.1 + 1)).2] 76)) := (Below.refl _ W').alloc (Nat.le_refl _) _
   gi_wp2
   exact hK _ _ (KeepsFrom.of_below hb) (Kept.of_below hb hS2.1.size) ⟨⟨⟨hS2.alloc _, blk_alloc hc1 _, blk_alloc hc2 _⟩, hk.trans (Kept.of_below hb hS2.1.size), hf.trans (KeepsFrom.of_below hb)⟩, hq⟩ ⟨W'.heap.size, heap_alloc_new _ _, rfl⟩
  case body2 =>
   rintro l2 pre' y a'' W' - - ⟨⟨⟨hS2, hc1, hc2⟩, hk, hf⟩, hq⟩ ⟨B4, hc4, rfl⟩ hlt2
   have HF := Lib.hid (fun W f => fit_any (nx ps x.1) (nx ps (x.1 + 1)) (nx ps y.1) (nx ps (y.1 + 1)) (nx_gd hg (by omega) _) (nx_gd hg (by omega) _) (nx_gd hg (by omega) _) (nx_gd hg (by omega) _) f W)
   have HC : ∀ w', Below W'.heap.size W' w' → (w'.cell? ⟨B1, 0, none⟩ = some (.int .i64 (x.1 : Int)) ∧ w'.cell? ⟨B2, 0, none⟩ = some (.int .i64 (nx ps x.1).1) ∧ w'.cell? ⟨B2, 1, none⟩ = some (.int .i64 (nx ps x.1).2) ∧ w'.cell? ⟨B2, 2, none⟩ = some (.int .i64 (nx ps (x.1 + 1)).1) ∧ w'.cell? ⟨B2, 3, none⟩ = some (.int .i64 (nx ps (x.1 + 1)).2) ∧ w'.cell? ⟨B4, 0, none⟩ = some (.int .i64 (nx ps y.1).1) ∧ w'.cell? ⟨B4, 1, none⟩ = some (.int .i64 (nx ps y.1).2) ∧ w'.cell? ⟨B4, 2, none⟩ = some (.int .i64 (nx ps (y.1 + 1)).1) ∧ w'.cell? ⟨B4, 3, none⟩ = some (.int .i64 (nx ps (y.1 + 1)).2) ∧ w'.cell? ⟨w.heap.size, 0, none⟩ = some (.slice A ps.length cap)) := fun w' hb =>
    ⟨blk_cell ((hb.block _ (blk_lt hc1)).trans hc1) 0, blk_cell ((hb.block _ (blk_lt hc2)).trans hc2) 0, blk_cell ((hb.block _ (blk_lt hc2)).trans hc2) 1, blk_cell ((hb.block _ (blk_lt hc2)).trans hc2) 2, blk_cell ((hb.block _ (blk_lt hc2)).trans hc2) 3, blk_cell ((hb.block _ (blk_lt hc4)).trans hc4) 0, blk_cell ((hb.block _ (blk_lt hc4)).trans hc4) 1, blk_cell ((hb.block _ (blk_lt hc4)).trans hc4) 2, blk_cell ((hb.block _ (blk_lt hc4)).trans hc4) 3, (hS2.on hb).cell (.tail _ (.tail _ (.head _))) 0⟩
   have HCR := Lib.hid HC
   have hHeld : (fun w' : World => w'.cell? ⟨B1, 0, none⟩ = some (.int .i64 (x.1 : Int)) ∧ w'.cell? ⟨B2, 0, none⟩ = some (.int .i64 (nx ps x.1).1) ∧ w'.cell? ⟨B2, 1, none⟩ = some (.int .i64 (nx ps x.1).2) ∧ w'.cell? ⟨B2, 2, none⟩ = some (.int .i64 (nx ps (x.1 + 1)).1) ∧ w'.cell? ⟨B2, 3, none⟩ = some (.int .i64 (nx ps (x.1 + 1)).2) ∧ w'.cell? ⟨B4, 0, none⟩ = some (.int .i64 (nx ps y.1).1) ∧ w'.cell? ⟨B4, 1, none⟩ = some (.int .i64 (nx ps y.1).2) ∧ w'.cell? ⟨B4, 2, none⟩ = some (.int .i64 (nx ps (y.1 + 1)).1) ∧ w'.cell? ⟨B4, 3, none⟩ = some (.int .i64 (nx ps (y.1 + 1)).2) ∧ w'.cell? ⟨w.heap.size, 0, none⟩ = some (.slice A ps.length cap)) W'.drew := HC _ ⟨rfl, rfl, rfl, Nat.le_refl _, fun _ _ => rfl⟩
   clear HC
   have hBd : Below W'.heap.size W' W'.drew := ⟨rfl, rfl, rfl, Nat.le_refl _, fun _ _ => rfl⟩
   by_cases hij : x.1 < y.1
   ·have hij' : (x.1 : Int) < (y.1 : Int) := by omega
    gi_wp2_with fail
    refine Draws.start (X := []) (S := fun w' => w'.cell? ⟨B1, 0, none⟩ = some (.int .i64 (x.1 : Int)) ∧ w'.cell? ⟨B2, 0, none⟩ = some (.int .i64 (nx ps x.1).1) ∧ w'.cell? ⟨B2, 1, none⟩ = some (.int .i64 (nx ps x.1).2) ∧ w'.cell? ⟨B2, 2, none⟩ = some (.int .i64 (nx ps (x.1 + 1)).1) ∧ w'.cell? ⟨B2, 3, none⟩ = some (.int .i64 (nx ps (x.1 + 1)).2) ∧ w'.cell? ⟨B4, 0, none⟩ = some (.int .i64 (nx ps y.1).1) ∧ w'.cell? ⟨B4, 1, none⟩ = some (.int .i64 (nx ps y.1).2) ∧ w'.cell? ⟨B4, 2, none⟩ = some (.int .i64 (nx ps (y.1 + 1)).1) ∧ w'.cell? ⟨B4, 3, none⟩ = some (.int .i64 (nx ps (y.1 + 1)).2) ∧ w'.cell? ⟨w.heap.size, 0, none⟩ = some (.slice A ps.length cap)) (by kernel_rfl) ?_
    refine Draws.take (i := 0) (v := ?_) (by decide +kernel) rfl (by rfl) (fun _ => rfl) (by decide +kernel) (by decide +kernel) (by decide +kernel) (by decide +kernel) (fun _ _ _ h => h) (by assumption) ?_ ?_
    rotate_left
    focus (intro w0 hSw; (try dsimp only at hSw); go_simp; (try (with_reducible rfl)); done)
    (try simp only [Act.put, jA, jB, jD, jE, jF])
    refine Draws.take (i := 1) (v := ?_) (by decide +kernel) rfl (by rfl) (fun _ => rfl) (by decide +kernel) (by decide +kernel) (by decide +kernel) (by decide +kernel) (fun _ _ _ h => h) (by assumption) ?_ ?_
    rotate_left
    focus (intro w0 hSw; (try dsimp only at hSw); go_simp; (try (with_reducible rfl)); done)
    (try simp only [Act.put, jA, jB, jC, jD, jE, jF])
    refine Draws.take (i := 2) (v := ?_) (by decide +kernel) rfl (by rfl) (fun _ => rfl) (by decide +kernel) (by decide +kernel) (by decide +kernel) (by decide +kernel) (fun _ _ _ h => h) (by assumption) ?_ ?_
    rotate_left
    focus (intro w0 hSw; (try dsimp only at hSw); go_simp; (try (with_reducible rfl)); done)
    (try simp only [Act.put, jA, jB, jC, jD, jE, jF])
    refine Draws.take (i := 3) (v := ?_) (by decide +kernel) rfl (by rfl) (fun _ => rfl) (by decide +kernel) (by decide +kernel) (by decide +kernel) (by decide +kernel) (fun _ _ _ h => h) (by assumption) ?_ ?_
    rotate_left
    focus (intro w0 hSw; (try dsimp only at hSw); go_simp; (try (with_reducible rfl)); done)
    (try simp only [Act.put, jA, jB, jC, jD, jE, jF])
    refine Draws.take (i := 4) (v := ?_) (by decide +kernel) rfl (by rfl) (fun _ => rfl) (by decide +kernel) (by decide +kernel) (by decide +kernel) (by decide +kernel) (fun _ _ _ h => h) (by assumption) ?_ ?_
    rotate_left
    focus (intro w0 hSw; (try dsimp only at hSw); go_simp; (try (with_reducible rfl)); done)
    (try simp only [Act.put, jA, jB, jC, jD, jE, jF])
    refine Draws.take (i := 5) (v := ?_) (by decide +kernel) rfl (by rfl) (fun _ => rfl) (by decide +kernel) (by decide +kernel) (by decide +kernel) (by decide +kernel) (fun _ _ _ h => h) (by assumption) ?_ ?_
    rotate_left
    focus (intro w0 hSw; (try dsimp only at hSw); go_simp; (try (with_reducible rfl)); done)
    (try simp only [Act.put, jA, jB, jC, jD, jE, jF])
    refine Draws.take (i := 6) (v := ?_) (by decide +kernel) rfl (by rfl) (fun _ => rfl) (by decide +kernel) (by decide +kernel) (by decide +kernel) (by decide +kernel) (fun _ _ _ h => h) (by assumption) ?_ ?_
    rotate_left
    focus (intro w0 hSw; (try dsimp only at hSw); go_simp; (try (with_reducible rfl)); done)
    (try simp only [Act.put, jA, jB, jC, jD, jE, jF])
    refine Draws.take (i := 7) (v := ?_) (by decide +kernel) rfl (by rfl) (fun _ => rfl) (by decide +kernel) (by decide +kernel) (by decide +kernel) (by decide +kernel) (fun _ _ _ h => h) (by assumption) ?_ ?_
    rotate_left
    focus (intro w0 hSw; (try dsimp only at hSw); go_simp; (try (with_reducible rfl)); done)
    (try simp only [Act.put, jA, jB, jC, jD, jE, jF])
    refine Draws.take (i := 8) (v := ?_) (by decide +kernel) rfl (by rfl) (fun _ => rfl) (by decide +kernel) (by decide +kernel) (by decide +kernel) (by decide +kernel) (fun _ _ _ h => h) (by assumption) ?_ ?_
    rotate_left
    focus (intro w0 hSw; (try dsimp only at hSw); go_simp; (try (with_reducible rfl)); done)
    (try simp only [Act.put, jA, jB, jC, jD, jE, jF])
    refine Draws.take (i := 9) (v := ?_) (by decide +kernel) rfl (by rfl) (fun _ => rfl) (by decide +kernel) (by decide +kernel) (by decide +kernel) (by decide +kernel) (fun _ _ _ h => h) (by assumption) ?_ ?_
    rotate_left
    focus (intro w0 hSw; (try dsimp only at hSw); go_simp; (try (with_reducible rfl)); done)
    (try simp only [Act.put, jA, jB, jC, jD, jE, jF])
    refine Draws.one (i := 10) (by decide +kernel) rfl (by rfl) (fun K hKK => ?_)
    go_simp
    refine ⟨trivial, ?_⟩
    gi_at_call 172
    refine (CallsIn.inRound l2 (callsIn_wide.2 (follow_any x.1 y.1 ps.length hij y.2 hn _))).mono ?_
    rintro e w' ⟨rfl, rfl⟩
    refine hKK.out _ _ (fun _ => hHeld) ?_
    clear hKK K
    (try simp only [Act.put, jA, jB, jC, jD, jE, jF])
    refine Draws.one (i := 11) (by decide +kernel) rfl (by rfl) (fun K hKK => ?_)
    go_simp
    refine ⟨trivial, ?_⟩
    gi_at_call 171
    refine (CallsIn.inRound l2 (callsIn_wide.2 (HF.out _ _))).mono ?_
    rintro e w3 ⟨rfl, hB⟩
    have hB3 := hBd.trans hB
    replace hHeld : (fun w' : World => w'.cell? ⟨B1, 0, none⟩ = some (.int .i64 (x.1 : Int)) ∧ w'.cell? ⟨B2, 0, none⟩ = some (.int .i64 (nx ps x.1).1) ∧ w'.cell? ⟨B2, 1, none⟩ = some (.int .i64 (nx ps x.1).2) ∧ w'.cell? ⟨B2, 2, none⟩ = some (.int .i64 (nx ps (x.1 + 1)).1) ∧ w'.cell? ⟨B2, 3, none⟩ = some (.int .i64 (nx ps (x.1 + 1)).2) ∧ w'.cell? ⟨B4, 0, none⟩ = some (.int .i64 (nx ps y.1).1) ∧ w'.cell? ⟨B4, 1, none⟩ = some (.int .i64 (nx ps y.1).2) ∧ w'.cell? ⟨B4, 2, none⟩ = some (.int .i64 (nx ps (y.1 + 1)).1) ∧ w'.cell? ⟨B4, 3, none⟩ = some (.int .i64 (nx ps (y.1 + 1)).2) ∧ w'.cell? ⟨w.heap.size, 0, none⟩ = some (.slice A ps.length cap)) w3 := HCR.out _ hB3
    refine hKK.out _ _ (fun _ => hHeld) ?_
    clear hKK K
    (try simp only [Act.put, jA, jB, jC, jD, jE, jF])
    refine Draws.take (i := 12) (v := ?_) (by decide +kernel) rfl (by rfl) (fun _ => rfl) (by decide +kernel) (by decide +kernel) (by decide +kernel) (by decide +kernel) (fun _ _ _ h => h) (by assumption) ?_ ?_
    rotate_left
    focus (intro w0 hSw; (try dsimp only at hSw); go_simp; (try (with_reducible rfl)); done)
    (try simp only [Act.put, jA, jB, jC, jD, jE, jF])
    refine Draws.take (i := 13) (v := ?_) (by decide +kernel) rfl (by rfl) (fun _ => rfl) (by decide +kernel) (by decide +kernel) (by decide +kernel) (by decide +kernel) (fun _ _ _ h => h) (by assumption) ?_ ?_
    rotate_left
    focus (intro w0 hSw; (try dsimp only at hSw); go_simp; (try (with_reducible rfl)); done)
    (try simp only [Act.put, jA, jB, jC, jD, jE, jF])
    refine Draws.done (by decide +kernel) ?_ _
    have hfb : fitV (nx ps x.1) (nx ps (x.1 + 1)) (nx ps y.1) (nx ps (y.1 + 1)) (flw x.1 y.1 ps.length) = fitB ps x.1 y.1 := rfl
    rw [hfb]
    have hS3 := hS2.on hB3
    cases hfv : fitB ps x.1 y.1
    ·have y0 := hS3.cell (.tail _ (.head _)) 0
     have y1 := hS3.frozen (.tail _ (.head _)) 0
     have hg1 := (hS3.2.1 _ (.tail _ (.head _))).1
     simp only [List.getElem?_toArray, List.getElem?_cons_zero] at y0 y1
     have hS4 : Stays w A ps.length cap (w3.setCell ⟨w.heap.size + 1, 0, none⟩ (.bool false)) := Hold.put (L1 := [_]) hS3 0 (.bool false)
     gi_wp2
     exact ⟨(KeepsFrom.of_below hB3).trans ((KeepsOthers.setCell _ _ _).from _), ⟨rfl, hS4, fun h => by rw [h _ _ hij y.2] at hfv; cases hfv⟩, (hf.trans (KeepsFrom.of_below hB3)).trans ((KeepsOthers.setCell _ _ _).from _)⟩
    ·gi_wp2
     refine ⟨KeepsFrom.of_below hB3, Kept.of_below hB3 hS2.1.size, ⟨⟨hS3, (hB3.block _ (blk_lt hc1)).trans hc1, (hB3.block _ (blk_lt hc2)).trans hc2⟩, hk.trans (Kept.of_below hB3 hS2.1.size), hf.trans (KeepsFrom.of_below hB3)⟩, fun z hz => ?_⟩
     rcases List.mem_append.1 hz with hz | hz
     ·exact hq z hz
     ·obtain rfl := List.mem_singleton.1 hz
      exact fun _ => hfv
   ·have hij' : ¬ (x.1 : Int) < (y.1 : Int) := by omega
    have hd : decide ((x.1 : Int) < (y.1 : Int)) = false := decide_eq_false hij'
    gi_wp2_with fail
    refine Draws.start (X := []) (S := fun w' => w'.cell? ⟨B1, 0, none⟩ = some (.int .i64 (x.1 : Int)) ∧ w'.cell? ⟨B2, 0, none⟩ = some (.int .i64 (nx ps x.1).1) ∧ w'.cell? ⟨B2, 1, none⟩ = some (.int .i64 (nx ps x.1).2) ∧ w'.cell? ⟨B2, 2, none⟩ = some (.int .i64 (nx ps (x.1 + 1)).1) ∧ w'.cell? ⟨B2, 3, none⟩ = some (.int .i64 (nx ps (x.1 + 1)).2) ∧ w'.cell? ⟨B4, 0, none⟩ = some (.int .i64 (nx ps y.1).1) ∧ w'.cell? ⟨B4, 1, none⟩ = some (.int .i64 (nx ps y.1).2) ∧ w'.cell? ⟨B4, 2, none⟩ = some (.int .i64 (nx ps (y.1 + 1)).1) ∧ w'.cell? ⟨B4, 3, none⟩ = some (.int .i64 (nx ps (y.1 + 1)).2) ∧ w'.cell? ⟨w.heap.size, 0, none⟩ = some (.slice A ps.length cap)) (by kernel_rfl) ?_
    refine Draws.take (i := 0) (v := ?_) (by decide +kernel) rfl (by rfl) (fun _ => rfl) (by decide +kernel) (by decide +kernel) (by decide +kernel) (by decide +kernel) (fun _ _ _ h => h) (by assumption) ?_ ?_
    rotate_left
    focus (intro w0 hSw; (try dsimp only at hSw); go_simp; (try (with_reducible rfl)); done)
    (try simp only [Act.put, jA, jB, jD, jE, jF])
    refine Draws.take (i := 1) (v := ?_) (by decide +kernel) rfl (by rfl) (fun _ => rfl) (by decide +kernel) (by decide +kernel) (by decide +kernel) (by decide +kernel) (fun _ _ _ h => h) (by assumption) ?_ ?_
    rotate_left
    focus (intro w0 hSw; (try dsimp only at hSw); go_simp; (try (with_reducible rfl)); done)
    (try simp only [Act.put, jA, jB, jC, jD, jE, jF])
    refine Draws.take (i := 2) (v := ?_) (by decide +kernel) rfl (by rfl) (fun _ => rfl) (by decide +kernel) (by decide +kernel) (by decide +kernel) (by decide +kernel) (fun _ _ _ h => h) (by assumption) ?_ ?_
    rotate_left
    focus (intro w0 hSw; (try dsimp only at hSw); go_simp; (try (with_reducible rfl)); done)
    (try simp only [Act.put, jA, jB, jC, jD, jE, jF])
    refine Draws.take (i := 3) (v := ?_) (by decide +kernel) rfl (by rfl) (fun _ => rfl) (by decide +kernel) (by decide +kernel) (by decide +kernel) (by decide +kernel) (fun _ _ _ h => h) (by assumption) ?_ ?_
    rotate_left
    focus (intro w0 hSw; (try dsimp only at hSw); go_simp; (try (with_reducible rfl)); done)
    (try simp only [Act.put, jA, jB, jC, jD, jE, jF])
    refine Draws.pass (i := 4) (by decide +kernel) rfl (by rfl) (fun _ => trivial) (by decide +kernel) (by decide +kernel) (by decide +kernel) (by decide +kernel) (fun _ _ _ h => h) (by assumption) ?_
    (try simp only [Act.put, jA, jB, jC, jD, jE, jF])
    refine Draws.pass (i := 5) (by decide +kernel) rfl (by rfl) (fun _ => trivial) (by decide +kernel) (by decide +kernel) (by decide +kernel) (by decide +kernel) (fun _ _ _ h => h) (by assumption) ?_
    (try simp only [Act.put, jA, jB, jC, jD, jE, jF])
    refine Draws.pass (i := 6) (by decide +kernel) rfl (by rfl) (fun _ => trivial) (by decide +kernel) (by decide +kernel) (by decide +kernel) (by decide +kernel) (fun _ _ _ h => h) (by assumption) ?_
    (try simp only [Act.put, jA, jB, jC, jD, jE, jF])
    refine Draws.pass (i := 7) (by decide +kernel) rfl (by rfl) (fun _ => trivial) (by decide +kernel) (by decide +kernel) (by decide +kernel) (by decide +kernel) (fun _ _ _ h => h) (by assumption) ?_
    (try simp only [Act.put, jA, jB, jC, jD, jE, jF])
    refine Draws.pass (i := 8) (by decide +kernel) rfl (by rfl) (fun _ => trivial) (by decide +kernel) (by decide +kernel) (by decide +kernel) (by decide +kernel) (fun _ _ _ h => h) (by assumption) ?_
    (try simp only [Act.put, jA, jB, jC, jD, jE, jF])
    refine Draws.pass (i := 9) (by decide +kernel) rfl (by rfl) (fun _ => trivial) (by decide +kernel) (by decide +kernel) (by decide +kernel) (by decide +kernel) (fun _ _ _ h => h) (by assumption) ?_
    (try simp only [Act.put, jA, jB, jC, jD, jE, jF])
    refine Draws.pass (i := 10) (by decide +kernel) rfl (by rfl) (fun _ => trivial) (by decide +kernel) (by decide +kernel) (by decide +kernel) (by decide +kernel) (fun _ _ _ h => h) (by assumption) ?_
    (try simp only [Act.put, jA, jB, jC, jD, jE, jF])
    refine Draws.pass (i := 11) (by decide +kernel) rfl (by rfl) (fun _ => trivial) (by decide +kernel) (by decide +kernel) (by decide +kernel) (by decide +kernel) (fun _ _ _ h => h) (by assumption) ?_
    (try simp only [Act.put, jA, jB, jC, jD, jE, jF])
    refine Draws.pass (i := 12) (by decide +kernel) rfl (by rfl) (fun _ => trivial) (by decide +kernel) (by decide +kernel) (by decide +kernel) (by decide +kernel) (fun _ _ _ h => h) (by assumption) ?_
    (try simp only [Act.put, jA, jB, jC, jD, jE, jF])
    refine Draws.take (i := 13) (v := ?_) (by decide +kernel) rfl (by rfl) (fun _ => rfl) (by decide +kernel) (by decide +kernel) (by decide +kernel) (by decide +kernel) (fun _ _ _ h => h) (by assumption) ?_ ?_
    rotate_left
    focus (intro w0 hSw; (try dsimp only at hSw); go_simp; (try (with_reducible rfl)); done)
    (try simp only [Act.put, jA, jB, jC, jD, jE, jF])
    refine Draws.done (by decide +kernel) ?_ _
    clear hHeld
    gi_wp2
    refine ⟨KeepsFrom.of_below hBd, Kept.of_below hBd hS2.1.size, ⟨⟨hS2.on hBd, hc1, hc2⟩, hk.trans (Kept.of_below hBd hS2.1.size), hf.trans (KeepsFrom.of_below hBd)⟩, fun z hz => ?_⟩
    rcases List.mem_append.1 hz with hz | hz
    ·exact hq z hz
    ·obtain rfl := List.mem_singleton.1 hz
     exact fun h => absurd h hij
  case done2 =>
   rintro ys W' rfl ⟨⟨⟨hS2, -, -⟩, hk, hf⟩, hq⟩
   gi_wp2
   refine ⟨hf, hk, hS2, fun z hz j h1 h2 => ?_⟩
   rcases List.mem_append.1 hz with hz | hz
   ·exact hp z hz j h1 h2
   ·obtain rfl := List.mem_singleton.1 hz
    exact hq ⟨j, h2⟩ (List.mem_finRange _) h1
  case stop2 =>
   rintro c pre' W' - ⟨⟨rfl, hS2, hnot⟩, hf⟩
   gi_wp2
   exact ⟨hf, rfl, hS2, hnot⟩
 case done =>
  rintro D ys W hD rfl ⟨hS, hall⟩ hK
  have y0 := hS.cell (.tail _ (.head _)) 0
  have y1 := hS.frozen (.tail _ (.head _)) 0
  simp only [List.getElem?_toArray, List.getElem?_cons_zero] at y0 y1
  have hS4 := Hold.put (L1 := [_]) hS 0 (.bool true)
  have n1 := hS4.cell (.tail _ (.head _)) 0
  simp only [List.setIfInBounds_toArray, List.set_cons_zero, List.getElem?_toArray, List.getElem?_cons_zero] at n1
  gi_wp2
  have hK' := (KeepsOthers.setCell W ⟨w.heap.size + 1, 0, none⟩ (.bool true)).same D _ hK rfl
  refine ⟨by simp, .inl ⟨_, _, rfl, run_takeDeferred hK', ?_⟩⟩
  have m1 := cell_kept n1 (grownBy_putObj' _ D (.deferred none)) (fun r e => by cases e; exact ⟨_, hK', rfl⟩)
  refine ⟨.bool true, ?_, true, rfl, ⟨fun _ i j h1 h2 => hall ⟨i, by omega⟩ (List.mem_finRange _) j h1 h2, fun _ => rfl⟩, hS4.1.trans (belowK_b (w := w) (Nat.le_refl _) _ D _ _ (by omega) hK' rfl rfl)⟩
  simp [results, Tryz.f138, go_sem, m1]
 case stop =>
  rintro D c pre W hD - ⟨rfl, hS, hnot⟩ hK
  have n1 := hS.cell (.tail _ (.head _)) 0
  simp only [List.getElem?_toArray, List.getElem?_cons_zero] at n1
  gi_wp2
  refine ⟨by simp, .inl ⟨_, _, rfl, run_takeDeferred hK, ?_⟩⟩
  have m1 := cell_kept n1 (grownBy_putObj' _ D (.deferred none)) (fun r e => by cases e; exact ⟨_, hK, rfl⟩)
  refine ⟨.bool false, ?_, false, rfl, ⟨fun h => (by cases h), fun h => absurd h hnot⟩, hS.1.trans (belowK_b (w := w) (Nat.le_refl _) _ D _ _ (by omega) hK rfl rfl)⟩
  simp [results, Tryz.f138, go_sem, m1]
end Go.Proofs.YtjlnjjmomohpaaaGreat
