/- The contract of the program's call Turned: the library's Clone and Reverse at rings. -/
import Derived.Test.YtjlnjjmomohpaaaGreatItems
import Derived.Lib.SliceRun
import Derived.Test.YtjlnjjmomohpaaaGreatSimple
namespace Go.Proofs.YtjlnjjmomohpaaaGreat
open Go.RowKit

theorem flatP_set : ∀ (ps : List (Int × Int)) (i : Nat) (q : Int × Int), flatP (ps.set i q) = ((flatP ps).set (i * 2) (.int .i64 q.1)).set (i * 2 + 1) (.int .i64 q.2)
 |[], i, q => by simp [flatP]
 |p :: ps, 0, q => by simp [flatP]
 |p :: ps, i + 1, q => by
  have h := flatP_set ps i q
  rw [show (i + 1) * 2 = i * 2 + 1 + 1 by omega]
  simp only [List.set_cons_succ, flatP, h]
theorem Row.put {w0 W : World} {g n cap : Nat} {ps : List (Int × Int)} (h : Row w0 (.slice (some ⟨g, 0, none⟩) n cap) ps W) (i : Nat) (q : Int × Int) :
  Row w0 (.slice (some ⟨g, 0, none⟩) n cap) (ps.set i q) ((W.setCell ⟨g, i * 2, none⟩ (.int .i64 q.1)).setCell ⟨g, i * 2 + 1, none⟩ (.int .i64 q.2)) := by
 obtain ⟨hB, hl, h2⟩ := h
 rcases h2 with ⟨e, -⟩ | ⟨g', cap', cur, e, hb, hh, h3, h4, h5, h6⟩
 ·cases e
 ·obtain ⟨e1, e2, e3⟩ := Value.slice.inj e
  obtain rfl : g = g' := by simpa using e1
  subst e3
  refine ⟨(hB.setCell (p := ⟨g, i * 2, none⟩) hb _).setCell (p := ⟨g, i * 2 + 1, none⟩) hb _, ?_, .inr ⟨g, cap, (cur.setIfInBounds (i * 2) (.int .i64 q.1)).setIfInBounds (i * 2 + 1) (.int .i64 q.2), ?_, hb, ?_, ?_, h4, ?_, ?_⟩⟩
  ·rw [flatP_length, List.length_set]
  ·rw [List.length_set, e2]
  ·simp [World.setCell, Array.getElem?_modify, hh]
  ·rw [List.length_set]; exact h3
  ·simp [h5]
  ·rw [List.length_set, flatP_set, ← h6]
   simp [List.take_set]

theorem Row.drew {w0 W : World} {v : Value} {ps : List (Int × Int)} (h : Row w0 v ps W) : Row w0 v ps W.drew := ⟨h.1.drew, h.2⟩
theorem Row.frozen {w0 W : World} {g n cap : Nat} {ps : List (Int × Int)} (h : Row w0 (.slice (some ⟨g, 0, none⟩) n cap) ps W) (i : Nat) : W.frozen? ⟨g, i, none⟩ = false := by
 rcases h.2.2 with ⟨e, -⟩ | ⟨g', cap', cur, e, hb, hh, -⟩
 ·cases e
 ·obtain rfl : g = g' := by simpa using (Value.slice.inj e).1
  exact blk_frozen hh i

end Go.Proofs.YtjlnjjmomohpaaaGreat
