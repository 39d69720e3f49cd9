/- The contract of the program's call Turned: the library's Clone and Reverse at rings. -/
import Derived.Test.YtoabooljgojoiabGreatItems
import Derived.Lib.SliceRun
import Derived.Test.YtoabooljgojoiabGreatSimple
namespace Go.Proofs.YtoabooljgojoiabGreat
open Go.RowKit

theorem flatP_set : ∀ (ps : List (Int × Int)) (i : Nat) (q : Int × Int), flatP (ps.set i q) = ((flatP ps).set (i * 2) (.int .i64 q.1)).set (i * 2 + 1) (.int .i64 q.2)
 |[], i, q => by simp [flatP]
 |p :: ps, 0, q => by simp [flatP]
 |p :: ps, i + 1, q => by
  have h := flatP_set ps i q
  rw [show (i + 1) * 2 = i * 2 + 1 + 1 by omega]
  simp only [List.set_cons_succ, flatP, h]
theorem Row.put {w0 W : World} {g n cap : Nat} {ps : List (Int × Int)} (h : Row w0 (.slice (some ⟨g, 0, none⟩) n cap) ps W) (i : Nat) (q : Int × Int) :
  Row w0 (.slice (some ⟨g, 0, none⟩) n cap) (ps.set i q) ((W.setCell ⟨g, i * 2, none⟩ (.int .i64 q.1)).setCell ⟨g, i * 2 + 1, none⟩ (.int .i64 q.2)) := by
 obtain ⟨hB, hl, h2⟩ := h
 rcases h2 with ⟨e, -⟩ | ⟨g', cap', cur, e, hb, hh, h3, h4, h5, h6⟩
 ·cases e
 ·obtain ⟨e1, e2, e3⟩ := Value.slice.inj e
  obtain rfl : g = g' := by simpa using e1
  subst e3
  refine ⟨(hB.setCell (p := ⟨g, i * 2, none⟩) hb _).setCell (p := ⟨g, i * 2 + 1, none⟩) hb _, ?_, .inr ⟨g, cap, (cur.setIfInBounds (i * 2) (.int .i64 q.1)).setIfInBounds (i * 2 + 1) (.int .i64 q.2), ?_, hb, ?_, ?_, h4, ?_, ?_⟩⟩
  ·rw [flatP_length, List.length_set]
  ·rw [List.length_set, e2]
  ·simp [World.setCell, Array.getElem?_modify, hh]
  ·rw [List.length_set]; exact h3
  ·simp [h5]
  ·rw [List.length_set, flatP_set, ← h6]
   simp [List.take_set]

theorem Row.drew {w0 W : World} {v : Value} {ps : List (Int × Int)} (h : Row w0 v ps W) : Row w0 v ps W.drew := ⟨h.1.drew, h.2⟩
theorem Row.frozen {w0 W : World} {g n cap : Nat} {ps : List (Int × Int)} (h : Row w0 (.slice (some ⟨g, 0, none⟩) n cap) ps W) (i : Nat) : W.frozen? ⟨g, i, none⟩ = false := by
 rcases h.2.2 with ⟨e, -⟩ | ⟨g', cap', cur, e, hb, hh, -⟩
 ·cases e
 ·obtain rfl : g = g' := by simpa using (Value.slice.inj e).1
  exact blk_frozen hh i

set_option maxRecDepth 100000 in
set_option maxHeartbeats 400000 in
theorem clone_any (ps : List (Int × Int)) (A : Option Addr) (cap : Nat) (hb : ps.length * 16 ≤ 140737488355328) (hnil : NilOk A cap) (w : World) (hr : Pts w w.heap.size A ps) :
  Calls Tryz.prog 20 #[.slice A ps.length cap] w fun e w' => ∃ v, e = .returned v ∧ Row w v ps w' := by
 have HB := Lib.hid hb
 clear hb
 cases A with
 |none =>
  obtain rfl := hnil rfl
  have h0 : ps = [] := by
   cases ps with
   |nil => rfl
   |cons p q => obtain ⟨_, e, _⟩ := hr (by simp); cases e
  subst h0
  have hq := fun W => Go.Lib.run_eql_slice_nil (P := Tryz.prog) W 23 28 none 0 0 0 0 Tryz.underlying23
  go_enter Tryz.func20, Tryz.ntmps20
  go_wp2
  go_ret
  exact ⟨_, rfl, Row.nil (Below.refl _ _)⟩
 |some ad =>
  have HR := Lib.hid (Row.made w 28 rfl)
  have HA := Lib.hid (hr.on HR.out.1)
  clear hr
  have hq := fun W => Go.Lib.run_eql_slice_nil (P := Tryz.prog) W 23 28 (some ad) ps.length cap 0 0 Tryz.underlying23
  go_enter Tryz.func20, Tryz.ntmps20
  go_wp2_with (at_builtin; go_must (refine append_pts _ Tryz.underlying23 HR.out ps (some ad) cap HA.out (fun h => by cases h) (by simpa using HB.out) rfl _ _ rfl rfl rfl ?_; rintro v' w1 HR1))
  go_ret
  exact ⟨v', rfl, HR1⟩

end Go.Proofs.YtoabooljgojoiabGreat
