/- The library's Keys and Collect at a map of edges: all its keys, in some order, in a slice of the call's own. -/
import Derived.RangeFuncNested
import Derived.RangeFuncBound
import Derived.RangeFuncCalls
import Derived.RangeFuncLeaves
import Derived.RangeFuncBox
import Derived.Shelf.Abstract
import Derived.WalkKit
import Derived.OwnWalkIn
import Derived.TacticsInMore
import Derived.LoopNIn
import Derived.LoopIn
import Derived.Sort.MapsRangeIn
import Derived.Test.YtbcmnhbpomjinaaPgF
namespace Go.Proofs.Ytbcmnhbpomjinaa
open Go.RowKit Go.Shelf
attribute [local go_sem] Oper.semAt_some

section
variable {α β : Type} {T : TypeId} {ek : α → Value} {ev : β → Value} {Ok : α → Prop} {W W' : World} {b r : Nat} {l left : List (α × β)}
theorem Ranges.of_walks (h : Ranges W b r ek ev Ok l left) (hk : KeepsWalks W W') : Ranges W' b r ek ev Ok l left := by
  obtain ⟨es, c, since, seen, c0, hb, hl, hs, hok, hr, rest⟩ := h
  exact ⟨es, c, since, seen, c0, hk.same b _ hb rfl, hl, hs, hok, hk.same r _ hr rfl, rest⟩
theorem Ranges.left_eq (h : Ranges W b r ek ev Ok l left) : W.rangeLeft b r = left.length := by
  obtain ⟨es, c, since, seen, c0, hb, hl, hs, hok, hr, hold, hleft, _⟩ := h
  simp only [World.rangeLeft, hb, hr]
  rw [← Array.length_toList, ← List.length_map (f := fun e : MapEntry => (e.key, e.val)), hleft, List.length_map]
variable {F : Fence} {n : Nat} {ops : Array Oper} {rest : List Oper} {o : Oper} {a : Act} {Q : Exit → Act → World → Prop}
theorem wpIn_range (hg : o.guard = none) (m : Operand) (t : TypeId) (hop : o.op = Op.range t m) (T e : TypeId) (ht : Try.prog.underlying t = some (.map T e)) (b : Nat) (hm : a.eval m = .map (some b)) (h : MapIs W b ek ev Ok l)
    (hK : ∀ W', Ranges W' b W.heap.size ek ev Ok l l → W.grownBy W' none → W'.heap.size = W.heap.size + 1 → wpListIn F n Try.prog ops Q rest (a.put o.dst (.pointer (some ⟨W.heap.size, 0, none⟩))) W') : wpListIn F n Try.prog ops Q (o :: rest) a W := by
  refine wpListIn_plain hg fun K' hK' => ?_
  obtain ⟨W', hrun, r1, r2, r3⟩ := h.range ht
  unfold Oper.wpIn
  refine ⟨?_, ?_⟩
  · simp [Oper.about, hop]
  · rw [Oper.semAt_plain F _ _ (by rw [hop]; intro c hc'; cases hc')]
    simp [execOp, hop, hm, hrun, Result.andThen]
    exact hK' _ _ (hK W' r1 r2 r3)
theorem wpIn_next (hg : o.guard = none) (it : Operand) (hop : o.op = Op.next it false) (r : Nat) (hit : a.eval it = .pointer (some ⟨r, 0, none⟩)) (h : Ranges W b r ek ev Ok l left)
    (hDone : left = [] → wpListIn F n Try.prog ops Q rest (a.put o.dst (.tuple #[.bool false])) W)
    (hMore : ∀ l1 p l2 W', left = l1 ++ p :: l2 → Ranges W' b r ek ev Ok l (l1 ++ l2) → W.grownBy W' (some r) → W'.heap.size = W.heap.size → (Instr.entry (.pointer (some ⟨r, 0, none⟩))).run Try.prog W' = .ok (.tuple #[ek p.1, ev p.2]) W' → wpListIn F n Try.prog ops Q rest (a.put o.dst (.tuple #[.bool true, ek p.1, ev p.2])) W') :
    wpListIn F n Try.prog ops Q (o :: rest) a W := by
  refine wpListIn_plain hg fun K' hK' => ?_
  unfold Oper.wpIn
  refine ⟨by simp [Oper.about, hop], ?_⟩
  rw [Oper.semAt_plain F _ _ (by rw [hop]; intro c hc'; cases hc')]
  rcases h.next o.type with ⟨h0, hrun⟩ | ⟨l1, p, l2, W', hl, hrun, hrg, hgr, hsz, hen⟩
  · simp [execOp, hop, hit, hrun, Result.andThen]
    exact hK' _ _ (hDone h0)
  · simp [execOp, hop, hit, hrun, Result.andThen]
    exact hK' _ _ (hMore l1 p l2 W' hl hrg hgr hsz hen)
end

set_option maxRecDepth 100000 in
set_option maxHeartbeats 1000000 in
theorem keys1_in (F : Fence) (n : Nat) (hf : F.fn 93) (hro : F.round = none) (hn : 1 ≤ n) (l Bm b : Nat) (L : List (EdT × Int)) (J Jx : List EdT → World → Prop)
    (hY : ∀ pre x W, J pre W → pre.length < L.length → YieldAt F (n - 1) Try.prog l #[gv x] W fun e W' =>
      (e = .returned (.bool true) ∧ J (pre ++ [x]) W' ∧ KeepsWalks W W') ∨ (e = .returned (.bool false) ∧ Jx (pre ++ [x]) W'))
    (W : World) (hJ : AbidesFrom W.heap.size J) (hm : W.cell? ⟨Bm, 0, none⟩ = some (.map (some b))) (hown : MapIs W b gv iv OkE L) (h0 : J [] W) :
    CallsIn F n Try.prog 93 #[.func (.yield l) #[] #[], .pointer (some ⟨Bm, 0, none⟩)] W fun e W' => (∃ v, e = .returned v) ∧
      ((∃ ys, ys.Perm (L.map Prod.fst) ∧ J ys W') ∨ (∃ pre, Jx pre W')) := by
  refine callsIn_of_wp Try.func93 rfl hf ?_ hro
  simp only [Try.ntmps93, List.size_toArray, List.length_cons, List.length_nil, Nat.reduceAdd, Nat.reduceSub, Array.replicate_succ, Array.replicate_zero, List.push_toArray, List.append_toArray, List.nil_append, List.cons_append]
  gi_wp2_with (gi_at_range; refine wpIn_range rfl _ 69 rfl 60 3 Try.underlying69 b rfl hown ?_; intro w0 hrg0 hg0 hs0)
  go_frame
  have hJ0 := hJ [] W w0 none h0 hg0 (fun r e => by cases e)
  gi_loopw [3] (fun _ wr => ∃ left ys, Ranges wr b W.heap.size gv iv OkE L left ∧ (ys ++ left.map Prod.fst).Perm (L.map Prod.fst) ∧ J ys wr) (fun _ wr => wr.rangeLeft b W.heap.size)
  case atStart => exact ⟨L, [], hrg0, List.Perm.refl _, hJ0⟩
  case round =>
    obtain ⟨left, ys, hrg, hP, hJs⟩ := hrel
    have HRS := Lib.hid hrg
    have HP := Lib.hid hP
    clear hrg hP
    gi_wp2_with (
      (gi_at_next; refine wpIn_next rfl _ rfl W.heap.size rfl HRS.out ?_ (fun l1 p l2 W5 hl hrg hg5 hs5 hen => ?_); rotate_left; (simp only [gv, iv] at hen ⊢); (have HL := Lib.hid hl); (have HRG := Lib.hid hrg); (have HG5 := Lib.hid hg5); clear hl hrg hg5 hs5; rotate_left))
    · intro hnil
      have HPN : Hid (ys.Perm (L.map Prod.fst)) := by have := HP.out; rw [hnil] at this; unfold Hid; simpa using this
      clear hnil
      gi_wp2
      go_end0
      exact ⟨⟨_, rfl⟩, .inl ⟨ys, HPN.out, hJs⟩⟩
    · obtain ⟨e, m⟩ := p
      have hlen : ys.length < L.length := by
        have h1 := HP.out.length_eq
        rw [List.length_append, List.length_map, List.length_map, HL.out, List.length_append, List.length_cons] at h1
        omega
      have hJ5 := hJ ys wr W5 (some W.heap.size) hJs HG5.out (fun r e => by cases e; exact ⟨Nat.le_refl _, HRS.out.walk⟩)
      have hJ6 := hJ ys W5 (W5.alloc (Obj.cells #[Value.int IntKind.i64 e.1.1, Value.int IntKind.i64 e.1.2, Value.int IntKind.i64 e.2.1, Value.int IntKind.i64 e.2.2] 60)) none hJ5 (World.grownBy_alloc _ _ _) (fun r e => by cases e)
      have hR6 := HRG.out.alloc (Obj.cells #[Value.int IntKind.i64 e.1.1, Value.int IntKind.i64 e.1.2, Value.int IntKind.i64 e.2.1, Value.int IntKind.i64 e.2.2] 60)
      obtain ⟨fn, tmps, assign, body, hy, hR⟩ := hY ys e _ hJ6 hlen
      simp only [gv] at hy
      have HLN : Hid ((l1 ++ l2).length < left.length) := by unfold Hid; rw [HL.out]; simp
      have HP1 : Hid (((ys ++ [e]) ++ (l1 ++ l2).map Prod.fst).Perm (L.map Prod.fst)) := by
        refine List.Perm.trans ?_ HP.out
        rw [HL.out, List.append_assoc]
        refine List.Perm.append_left ys ?_
        rw [List.map_append, List.map_append, List.map_cons]
        show (e :: (l1.map Prod.fst ++ l2.map Prod.fst)).Perm (l1.map Prod.fst ++ e :: l2.map Prod.fst)
        exact List.perm_middle.symm
      gi_wp2
      refine hR.mono ?_
      rintro e' W3 (⟨rfl, hJ3, hk3⟩ | ⟨rfl, hJx3⟩)
      · have HR3 := Lib.hid (hR6.of_walks hk3)
        clear hR6 hy hR
        gi_wp2
        go_roundw
        case rel => exact ⟨l1 ++ l2, ys ++ [e], HR3.out, HP1.out, hJ3⟩
        case measure => rw [HR3.out.left_eq, HRS.out.left_eq]; exact HLN.out
      · clear hR6 hy hR
        gi_wp2
        refine bodyPost_ret (results_none rfl _ _ _) rfl ?_
        exact ⟨⟨_, rfl⟩, .inr ⟨_, hJx3⟩⟩
theorem keys_stops (F : Fence) (n : Nat) (hf : F.fn 93) (hro : F.round = none) (hn : 1 ≤ n) (Bm b : Nat) (L : List (EdT × Int)) (w : World) (hBm : Bm < w.heap.size)
    (hm : w.cell? ⟨Bm, 0, none⟩ = some (.map (some b))) (hown : MapIs w b gv iv OkE L) :
    SeqStopsK F n Try.prog 93 #[.pointer (some ⟨Bm, 0, none⟩)] (fun x : EdT => #[gv x]) KeepsWalks (fun ys => ys.Perm (L.map Prod.fst)) (fun _ => True) L.length w := fun l J Jx W hW hJ _ hY h0 =>
  (keys1_in F n hf hro hn l Bm b L J Jx hY W hJ ((hW.cell (p := ⟨Bm, 0, none⟩) hBm).trans hm) (hown.on hW hown.lt) h0).mono fun _ _ ⟨h1, h2⟩ => ⟨h1, h2.imp id (fun ⟨pre, h⟩ => ⟨pre, trivial, h⟩)⟩
theorem keys_in (F : Fence) (n : Nat) (hf : F.fn 80) (hro : F.round = none) (mb : Option Nat) (w : World) :
    CallsIn F n Try.prog 80 #[.map mb] w fun e w' => e = .returned (.func (.func 93) #[] #[.pointer (some ⟨w.heap.size, 0, none⟩)]) ∧ w' = w.alloc (.cells #[.map mb] 69) := by
  refine callsIn_of_wp Try.func80 rfl hf ?_ hro
  simp only [Try.ntmps80, List.size_toArray, List.length_cons, List.length_nil, Nat.reduceAdd, Nat.reduceSub, Array.replicate_succ, Array.replicate_zero, List.push_toArray, List.append_toArray, List.nil_append, List.cons_append]
  gi_wp2
  go_ret
  exact ⟨rfl, rfl⟩
theorem keys_any (mb : Option Nat) (w : World) :
    Calls Try.prog 80 #[.map mb] w fun e w' => e = .returned (.func (.func 93) #[] #[.pointer (some ⟨w.heap.size, 0, none⟩)]) ∧ w' = w.alloc (.cells #[.map mb] 69) :=
  (callsIn_wide (n := 3)).1 (keys_in Fence.wide 3 trivial rfl mb w)
end Go.Proofs.Ytbcmnhbpomjinaa
