/- The contract of the program's call Turned: the library's Clone and Reverse at rings. -/
import Derived.Test.YtbcmnhbpomjinaaOwn
import Derived.Lib.SliceRun
import Derived.Test.YtbcmnhbpomjinaaSimple
namespace Go.Proofs.Ytbcmnhbpomjinaa
open Go.RowKit

theorem flatP_set : ∀ (ps : List (Int × Int)) (i : Nat) (q : Int × Int), flatP (ps.set i q) = ((flatP ps).set (i * 2) (.int .i64 q.1)).set (i * 2 + 1) (.int .i64 q.2)
  | [], i, q => by simp [flatP]
  | p :: ps, 0, q => by simp [flatP]
  | p :: ps, i + 1, q => by
    have h := flatP_set ps i q
    rw [show (i + 1) * 2 = i * 2 + 1 + 1 by omega]
    simp only [List.set_cons_succ, flatP, h]
/-- A point written into a slice of the call's own. -/
theorem Row.put {w0 W : World} {g n cap : Nat} {ps : List (Int × Int)} (h : Row w0 (.slice (some ⟨g, 0, none⟩) n cap) ps W) (i : Nat) (q : Int × Int) :
    Row w0 (.slice (some ⟨g, 0, none⟩) n cap) (ps.set i q) ((W.setCell ⟨g, i * 2, none⟩ (.int .i64 q.1)).setCell ⟨g, i * 2 + 1, none⟩ (.int .i64 q.2)) := by
  obtain ⟨hB, hl, h2⟩ := h
  rcases h2 with ⟨e, -⟩ | ⟨g', cap', cur, e, hb, hh, h3, h4, h5, h6⟩
  · cases e
  · obtain ⟨e1, e2, e3⟩ := Value.slice.inj e
    obtain rfl : g = g' := by simpa using e1
    subst e3
    refine ⟨(hB.setCell (p := ⟨g, i * 2, none⟩) hb _).setCell (p := ⟨g, i * 2 + 1, none⟩) hb _, ?_, .inr ⟨g, cap, (cur.setIfInBounds (i * 2) (.int .i64 q.1)).setIfInBounds (i * 2 + 1) (.int .i64 q.2), ?_, hb, ?_, ?_, h4, ?_, ?_⟩⟩
    · rw [flatP_length, List.length_set]
    · rw [List.length_set, e2]
    · simp [World.setCell, Array.getElem?_modify, hh]
    · rw [List.length_set]; exact h3
    · simp [h5]
    · rw [List.length_set, flatP_set, ← h6]
      simp [List.take_set]

theorem Row.drew {w0 W : World} {v : Value} {ps : List (Int × Int)} (h : Row w0 v ps W) : Row w0 v ps W.drew := ⟨h.1.drew, h.2⟩
theorem Row.frozen {w0 W : World} {g n cap : Nat} {ps : List (Int × Int)} (h : Row w0 (.slice (some ⟨g, 0, none⟩) n cap) ps W) (i : Nat) : W.frozen? ⟨g, i, none⟩ = false := by
  rcases h.2.2 with ⟨e, -⟩ | ⟨g', cap', cur, e, hb, hh, -⟩
  · cases e
  · obtain rfl : g = g' := by simpa using (Value.slice.inj e).1
    exact blk_frozen hh i

set_option maxRecDepth 100000 in
set_option maxHeartbeats 400000 in
theorem clone_any (ps : List (Int × Int)) (A : Option Addr) (cap : Nat) (hb : ps.length * 16 ≤ 140737488355328) (hnil : NilOk A cap) (w : World) (hr : Pts w w.heap.size A ps) :
    Calls Try.prog 32 #[.slice A ps.length cap] w fun e w' => ∃ v, e = .returned v ∧ Row w v ps w' := by
  have HB := Lib.hid hb
  clear hb
  cases A with
  | none =>
    obtain rfl := hnil rfl
    have h0 : ps = [] := by
      cases ps with
      | nil => rfl
      | cons p q => obtain ⟨_, e, _⟩ := hr (by simp); cases e
    subst h0
    have hq := fun W => Go.Lib.run_eql_slice_nil (P := Try.prog) W 23 43 none 0 0 0 0 Try.underlying23
    go_enter Try.func32, Try.ntmps32
    go_wp2
    go_ret
    exact ⟨_, rfl, Row.nil (Below.refl _ _)⟩
  | some ad =>
    have HR := Lib.hid (Row.made w 43 rfl)
    have HA := Lib.hid (hr.on HR.out.1)
    clear hr
    have hq := fun W => Go.Lib.run_eql_slice_nil (P := Try.prog) W 23 43 (some ad) ps.length cap 0 0 Try.underlying23
    go_enter Try.func32, Try.ntmps32
    go_wp2_with (at_builtin; go_must (refine append_pts _ Try.underlying23 HR.out ps (some ad) cap HA.out (fun h => by cases h) (by simpa using HB.out) rfl _ _ rfl rfl rfl ?_; rintro v' w1 HR1))
    go_ret
    exact ⟨v', rfl, HR1⟩

/-- Its first and last k corners have changed places. -/
def swaps (ps : List (Int × Int)) (k : Nat) : List (Int × Int) := (List.range ps.length).map fun m => if m < k ∨ ps.length - k ≤ m then ps.getD (ps.length - 1 - m) (0, 0) else ps.getD m (0, 0)
theorem swaps_length (ps : List (Int × Int)) (k : Nat) : (swaps ps k).length = ps.length := by unfold swaps; simp
theorem swaps_get {ps : List (Int × Int)} {k m : Nat} (h : m < ps.length) : (swaps ps k)[m]? = some (if m < k ∨ ps.length - k ≤ m then ps.getD (ps.length - 1 - m) (0, 0) else ps.getD m (0, 0)) := by
  unfold swaps
  rw [List.getElem?_map, List.getElem?_range h]
  rfl
theorem swaps_zero (ps : List (Int × Int)) : swaps ps 0 = ps := by
  apply List.ext_getElem?
  intro m
  by_cases h : m < ps.length
  · rw [swaps_get h, if_neg (by omega), List.getD_eq_getElem?_getD, List.getElem?_eq_getElem h]; rfl
  · rw [List.getElem?_eq_none (by rw [swaps_length]; omega), List.getElem?_eq_none (by omega)]
theorem swaps_end {ps : List (Int × Int)} {k : Nat} (hk : ps.length ≤ k + k + 1) : swaps ps k = ps.reverse := by
  apply List.ext_getElem?
  intro m
  by_cases h : m < ps.length
  · rw [swaps_get h, List.getElem?_reverse h, List.getD_eq_getElem?_getD, List.getD_eq_getElem?_getD]
    have e1 := List.getElem?_eq_getElem (l := ps) (i := ps.length - 1 - m) (by omega)
    by_cases h2 : m < k ∨ ps.length - k ≤ m
    · rw [if_pos h2, e1]; rfl
    · rw [if_neg h2]
      have hm : ps.length - 1 - m = m := by omega
      rw [hm, List.getElem?_eq_getElem h]; rfl
  · rw [List.getElem?_eq_none (by rw [swaps_length]; omega), List.getElem?_eq_none (by rw [List.length_reverse]; omega)]
theorem swaps_next {ps : List (Int × Int)} {k : Nat} (hk : k + k + 1 < ps.length) : ((swaps ps k).set k (ps.getD (ps.length - 1 - k) (0, 0))).set (ps.length - 1 - k) (ps.getD k (0, 0)) = swaps ps (k + 1) := by
  apply List.ext_getElem?
  intro m
  by_cases h : m < ps.length
  · rw [List.getElem?_set, List.getElem?_set, swaps_get h, swaps_get h, List.length_set, swaps_length]
    by_cases h1 : ps.length - 1 - k = m
    · rw [if_pos h1, if_pos (by omega), if_pos (by omega)]
      rw [show ps.length - 1 - m = k by omega]
    · rw [if_neg h1]
      by_cases h2 : k = m
      · subst h2
        rw [if_pos rfl, if_pos h, if_pos (by omega)]
      · rw [if_neg h2]
        by_cases h3 : m < k ∨ ps.length - k ≤ m
        · rw [if_pos h3, if_pos (by omega)]
        · rw [if_neg h3, if_neg (by omega)]
  · rw [List.getElem?_eq_none (by rw [List.length_set, List.length_set, swaps_length]; omega), List.getElem?_eq_none (by rw [swaps_length]; omega)]

end Go.Proofs.Ytbcmnhbpomjinaa
