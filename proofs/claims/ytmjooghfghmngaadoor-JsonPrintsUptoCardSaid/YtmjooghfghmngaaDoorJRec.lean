/- What a parse that gives up leaves: the deferred function of Parse, entered behind a return and behind a reader's fault. -/
import Derived.Test.YtmjooghfghmngaaDoorJAny
import Derived.Defers
import Derived.Recover
import Derived.WideLaws
import Derived.Laws.Pointers
namespace Go.Proofs.YtmjooghfghmngaaDoor
open Go.RowKit Go.Shelf Go.Lib

theorem wp_hide {P : Program} {c : Code} {Q : Exit → Act → World → Prop} {a : Act} {w : World} (h : ∀ Q', Hid (Q' = Q) → c.wp P Q' a w) : c.wp P Q a w := h Q (Lib.hid rfl)
theorem under_any : Tryd.prog.underlying 20 = some (.interface (Tryd.prog.methodsAt 20)) := by kernel_rfl
theorem assert_fault (v : Value) (w : World) : (Instr.typeAssert (.iface 48 v) 20 48 true).run Tryd.prog w = .ok (.tuple #[v, .bool true]) w := by
  simp [Instr.typeAssert, run_underlying Tryd.underlying48]

theorem catch_idle (p1 p2 p3 : Addr) (w : World) :
    CallsD Tryd.prog 21 #[.pointer (some p1), .pointer (some p2), .pointer (some p3)] .returning w fun e u' w' => e = .returned (.tuple #[]) ∧ u' = .returning ∧ w' = w := by
  refine callsD_of_wpS Tryd.func21 rfl fun c₀ cs hu => ?_
  simp only [Tryd.ntmps21, List.size_toArray, List.length_cons, List.length_nil, Nat.reduceAdd, Nat.reduceSub, Array.replicate_succ,
     Array.replicate_zero, List.push_toArray, List.append_toArray, List.nil_append, List.cons_append]
  refine wpS_seq (wpS_region ?_)
  generalize hK : Exit.thenS _ _ = K
  simp [wpOpsS, go_sem, recoverD, hu]
  rw [← hK]
  clear hK K
  simp only [Exit.thenS]
  refine wpS_of_wp (wp_hide fun Q HQ => ?_)
  obtain ⟨ms, hu20⟩ : ∃ ms, Tryd.prog.underlying 20 = some (.interface ms) := ⟨_, under_any⟩
  have HU := Lib.hid hu
  clear hu
  go_wp2_with fail
  rw [HQ.out]
  refine ⟨rfl, .returning, ?_, .tuple #[], by simp [results, Tryd.results21], rfl, rfl, rfl⟩
  have hu := HU.out
  clear HQ HU
  cases c₀
  simp_all

theorem below_drew {n : Nat} {w X : World} (h : Below n w X) : Below n w X.drew := ⟨h.os, h.tape, h.output, h.size, h.block⟩
theorem six_below {n : Nat} {w W : World} (hB : Below n w W) (v0 v1 v2 v3 v4 v5 : Value) : Below n w ((((((W.setCell ⟨n, 0, none⟩ v0).setCell ⟨n, 1, none⟩ v1).setCell ⟨n, 2, none⟩ v2).setCell ⟨n, 3, none⟩ v3).setCell ⟨n + 1, 0, none⟩ v4).setCell ⟨n + 2, 0, none⟩ v5).drew := by
  have h0 := hB.setCell (p := ⟨n, 0, none⟩) (Nat.le_refl n) v0
  have h1 := h0.setCell (p := ⟨n, 1, none⟩) (Nat.le_refl n) v1
  have h2 := h1.setCell (p := ⟨n, 2, none⟩) (Nat.le_refl n) v2
  have h3 := h2.setCell (p := ⟨n, 3, none⟩) (Nat.le_refl n) v3
  have h4 := h3.setCell (p := ⟨n + 1, 0, none⟩) (Nat.le_succ n) v4
  have h5 := h4.setCell (p := ⟨n + 2, 0, none⟩) (Nat.le_add_right n 2) v5
  exact below_drew h5
abbrev PanFault (a e : Int) (r : Bool) : FrameMode := .panicking [{ v := .iface 48 (.agg #[.int .i64 a, .int .i64 e]), recovered := r }]
set_option maxHeartbeats 400000 in
theorem catch_fault {n : Nat} {w : World} {a0 a1 a2 a3 : Value} {x y a e : Int} (hV : w.heap[n]? = some (.cells #[a0, a1, a2, a3] 25 (0, 0))) (hA : w.heap[n + 1]? = some (.cells #[.int .i64 x] 3 (0, 0))) (hE : w.heap[n + 2]? = some (.cells #[.int .i64 y] 27 (0, 0))) :
    CallsD Tryd.prog 21 #[.pointer (some ⟨n, 0, none⟩), .pointer (some ⟨n + 1, 0, none⟩), .pointer (some ⟨n + 2, 0, none⟩)] (PanFault a e false) w fun e' u' w' => e' = .returned (.tuple #[]) ∧ u' = PanFault a e true ∧ Below n w w' ∧
      w'.heap[n]? = some (.cells #[.int .i64 0, .string ⟨#[]⟩, .slice none 0 0, .slice none 0 0] 25 (0, 0)) ∧ w'.heap[n + 1]? = some (.cells #[.int .i64 a] 3 (0, 0)) ∧ w'.heap[n + 2]? = some (.cells #[.int .i64 e] 27 (0, 0)) := by
  have c0 := blk_cell hV 0
  have c1 := blk_cell hV 1
  have c2 := blk_cell hV 2
  have c3 := blk_cell hV 3
  have c4 := blk_cell hA 0
  have c5 := blk_cell hE 0
  have f0 := blk_frozen hV 0
  have f1 := blk_frozen hV 1
  have f2 := blk_frozen hV 2
  have f3 := blk_frozen hV 3
  have f4 := blk_frozen hA 0
  have f5 := blk_frozen hE 0
  have l0 := blk_lt hV
  have l1 := blk_lt hA
  have l2 := blk_lt hE
  have HV := Lib.hid hV
  have HA := Lib.hid hA
  have HE := Lib.hid hE
  clear hV hA hE
  refine callsD_of_wpS Tryd.func21 rfl fun c₀ cs hu => ?_
  simp only [Tryd.ntmps21, List.size_toArray, List.length_cons, List.length_nil, Nat.reduceAdd, Nat.reduceSub, Array.replicate_succ,
     Array.replicate_zero, List.push_toArray, List.append_toArray, List.nil_append, List.cons_append]
  refine wpS_seq (wpS_region ?_)
  generalize hK : Exit.thenS _ _ = K
  simp [wpOpsS, go_sem, recoverD, hu]
  rw [← hK]
  clear hK K
  simp only [Exit.thenS]
  refine wpS_of_wp (wp_hide fun Q HQ => ?_)
  obtain ⟨ms, hu20⟩ : ∃ ms, Tryd.prog.underlying 20 = some (.interface ms) := ⟨_, under_any⟩
  have hta := assert_fault
  have HU := Lib.hid hu
  clear hu
  go_wp2_with fail
  have hV1 := blk_alloc HV.out (Obj.cells #[.int .i64 a, .int .i64 e] 48)
  have hA1 := blk_alloc HA.out (Obj.cells #[.int .i64 a, .int .i64 e] 48)
  have hE1 := blk_alloc HE.out (Obj.cells #[.int .i64 a, .int .i64 e] 48)
  have hO1 := heap_alloc_new w (Obj.cells #[.int .i64 a, .int .i64 e] 48)
  have hB1 : Below n w (w.alloc (Obj.cells #[.int .i64 a, .int .i64 e] 48)) := (Below.refl n w).alloc (by omega) _
  clear c0 c1 c2 c3 c4 c5 f0 f1 f2 f3 f4 f5 hta HV HA HE
  generalize (w.alloc (Obj.cells #[.int .i64 a, .int .i64 e] 48)) = W1 at *
  generalize w.heap.size = g at *
  have c0 : W1.cell? ⟨n, 0, none⟩ = some a0 := blk_cell hV1 0
  have c1 : W1.cell? ⟨n, 1, none⟩ = some a1 := blk_cell hV1 1
  have c2 : W1.cell? ⟨n, 2, none⟩ = some a2 := blk_cell hV1 2
  have c3 : W1.cell? ⟨n, 3, none⟩ = some a3 := blk_cell hV1 3
  have c4 : W1.cell? ⟨n + 1, 0, none⟩ = some (.int .i64 x) := blk_cell hA1 0
  have c5 : W1.cell? ⟨n + 2, 0, none⟩ = some (.int .i64 y) := blk_cell hE1 0
  have c6 : W1.cell? ⟨g, 0, none⟩ = some (.int .i64 a) := blk_cell hO1 0
  have c7 : W1.cell? ⟨g, 1, none⟩ = some (.int .i64 e) := blk_cell hO1 1
  have f0 := blk_frozen hV1 0
  have f1 := blk_frozen hV1 1
  have f2 := blk_frozen hV1 2
  have f3 := blk_frozen hV1 3
  have f4 := blk_frozen hA1 0
  have f5 := blk_frozen hE1 0
  have g0 : ¬ g = n := by omega
  have g1 : ¬ g = n + 1 := by omega
  have g2 : ¬ g = n + 2 := by omega
  have HV1 := Lib.hid hV1
  have HA1 := Lib.hid hA1
  have HE1 := Lib.hid hE1
  have HB1 := Lib.hid hB1
  clear hV1 hA1 hE1 hO1 hB1
  go_region
  rw [HQ.out]
  have hu := HU.out
  have hB := HB1.out
  have hV := HV1.out
  have hA := HA1.out
  have hE := HE1.out
  clear HQ HU c0 c1 c2 c3 c4 c5 c6 c7 f0 f1 f2 f3 f4 f5 hu20
  refine ⟨rfl, PanFault a e true, rfl, .tuple #[], by simp [results, Tryd.results21], rfl, rfl, ?_, ?_, ?_, ?_⟩
  · exact six_below hB _ _ _ _ _ _
  · simp [World.setCell, World.drew, Array.getElem?_modify, hV]
  · simp [World.setCell, World.drew, Array.getElem?_modify, hA]
  · simp [World.setCell, World.drew, Array.getElem?_modify, hE]
end Go.Proofs.YtmjooghfghmngaaDoor
