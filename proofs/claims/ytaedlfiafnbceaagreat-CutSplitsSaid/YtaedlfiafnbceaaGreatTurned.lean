/- The contract of the program's call Turned: the library's Clone and Reverse at rings. -/
import Derived.Test.YtaedlfiafnbceaaGreatItems
import Derived.Lib.SliceRun
import Derived.Test.YtaedlfiafnbceaaGreatSimple
namespace Go.Proofs.YtaedlfiafnbceaaGreat
open Go.RowKit

theorem flatP_set : ∀ (ps : List (Int × Int)) (i : Nat) (q : Int × Int), flatP (ps.set i q) = ((flatP ps).set (i * 2) (.int .i64 q.1)).set (i * 2 + 1) (.int .i64 q.2)
 |[], i, q => by simp [flatP]
 |p :: ps, 0, q => by simp [flatP]
 |p :: ps, i + 1, q => by
  have h := flatP_set ps i q
  rw [show (i + 1) * 2 = i * 2 + 1 + 1 by omega]
  simp only [List.set_cons_succ, flatP, h]
theorem Row.put {w0 W : World} {g n cap : Nat} {ps : List (Int × Int)} (h : Row w0 (.slice (some ⟨g, 0, none⟩) n cap) ps W) (i : Nat) (q : Int × Int) :
  Row w0 (.slice (some ⟨g, 0, none⟩) n cap) (ps.set i q) ((W.setCell ⟨g, i * 2, none⟩ (.int .i64 q.1)).setCell ⟨g, i * 2 + 1, none⟩ (.int .i64 q.2)) := by
 obtain ⟨hB, hl, h2⟩ := h
 rcases h2 with ⟨e, -⟩ | ⟨g', cap', cur, e, hb, hh, h3, h4, h5, h6⟩
 ·cases e
 ·obtain ⟨e1, e2, e3⟩ := Value.slice.inj e
  obtain rfl : g = g' := by simpa using e1
  subst e3
  refine ⟨(hB.setCell (p := ⟨g, i * 2, none⟩) hb _).setCell (p := ⟨g, i * 2 + 1, none⟩) hb _, ?_, .inr ⟨g, cap, (cur.setIfInBounds (i * 2) (.int .i64 q.1)).setIfInBounds (i * 2 + 1) (.int .i64 q.2), ?_, hb, ?_, ?_, h4, ?_, ?_⟩⟩
  ·rw [flatP_length, List.length_set]
  ·rw [List.length_set, e2]
  ·simp [World.setCell, Array.getElem?_modify, hh]
  ·rw [List.length_set]; exact h3
  ·simp [h5]
  ·rw [List.length_set, flatP_set, ← h6]
   simp [List.take_set]

theorem Row.drew {w0 W : World} {v : Value} {ps : List (Int × Int)} (h : Row w0 v ps W) : Row w0 v ps W.drew := ⟨h.1.drew, h.2⟩
theorem Row.frozen {w0 W : World} {g n cap : Nat} {ps : List (Int × Int)} (h : Row w0 (.slice (some ⟨g, 0, none⟩) n cap) ps W) (i : Nat) : W.frozen? ⟨g, i, none⟩ = false := by
 rcases h.2.2 with ⟨e, -⟩ | ⟨g', cap', cur, e, hb, hh, -⟩
 ·cases e
 ·obtain rfl : g = g' := by simpa using (Value.slice.inj e).1
  exact blk_frozen hh i

set_option maxRecDepth 100000 in
set_option maxHeartbeats 400000 in
theorem clone_any (ps : List (Int × Int)) (A : Option Addr) (cap : Nat) (hb : ps.length * 16 ≤ 140737488355328) (hnil : NilOk A cap) (w : World) (hr : Pts w w.heap.size A ps) :
  Calls Tryz.prog 50 #[.slice A ps.length cap] w fun e w' => ∃ v, e = .returned v ∧ Row w v ps w' := by
 have HB := Lib.hid hb
 clear hb
 cases A with
 |none =>
  obtain rfl := hnil rfl
  have h0 : ps = [] := by
   cases ps with
   |nil => rfl
   |cons p q => obtain ⟨_, e, _⟩ := hr (by simp); cases e
  subst h0
  have hq := fun W => Go.Lib.run_eql_slice_nil (P := Tryz.prog) W 23 35 none 0 0 0 0 Tryz.underlying23
  go_enter Tryz.func50, Tryz.ntmps50
  go_wp2
  go_ret
  exact ⟨_, rfl, Row.nil (Below.refl _ _)⟩
 |some ad =>
  have HR := Lib.hid (Row.made w 35 rfl)
  have HA := Lib.hid (hr.on HR.out.1)
  clear hr
  have hq := fun W => Go.Lib.run_eql_slice_nil (P := Tryz.prog) W 23 35 (some ad) ps.length cap 0 0 Tryz.underlying23
  go_enter Tryz.func50, Tryz.ntmps50
  go_wp2_with (at_builtin; go_must (refine append_pts _ Tryz.underlying23 HR.out ps (some ad) cap HA.out (fun h => by cases h) (by simpa using HB.out) rfl _ _ rfl rfl rfl ?_; rintro v' w1 HR1))
  go_ret
  exact ⟨v', rfl, HR1⟩

def swaps (ps : List (Int × Int)) (k : Nat) : List (Int × Int) := (List.range ps.length).map fun m => if m < k ∨ ps.length - k ≤ m then ps.getD (ps.length - 1 - m) (0, 0) else ps.getD m (0, 0)
theorem swaps_length (ps : List (Int × Int)) (k : Nat) : (swaps ps k).length = ps.length := by unfold swaps; simp
theorem swaps_get {ps : List (Int × Int)} {k m : Nat} (h : m < ps.length) : (swaps ps k)[m]? = some (if m < k ∨ ps.length - k ≤ m then ps.getD (ps.length - 1 - m) (0, 0) else ps.getD m (0, 0)) := by
 unfold swaps
 rw [List.getElem?_map, List.getElem?_range h]
 rfl
theorem swaps_zero (ps : List (Int × Int)) : swaps ps 0 = ps := by
 apply List.ext_getElem?
 intro m
 by_cases h : m < ps.length
 ·rw [swaps_get h, if_neg (by omega), List.getD_eq_getElem?_getD, List.getElem?_eq_getElem h]; rfl
 ·rw [List.getElem?_eq_none (by rw [swaps_length]; omega), List.getElem?_eq_none (by omega)]
theorem swaps_end {ps : List (Int × Int)} {k : Nat} (hk : ps.length ≤ k + k + 1) : swaps ps k = ps.reverse := by
 apply List.ext_getElem?
 intro m
 by_cases h : m < ps.length
 ·rw [swaps_get h, List.getElem?_reverse h, List.getD_eq_getElem?_getD, List.getD_eq_getElem?_getD]
  have e1 := List.getElem?_eq_getElem (l := ps) (i := ps.length - 1 - m) (by omega)
  by_cases h2 : m < k ∨ ps.length - k ≤ m
  ·rw [if_pos h2, e1]; rfl
  ·rw [if_neg h2]
   have hm : ps.length - 1 - m = m := by omega
   rw [hm, List.getElem?_eq_getElem h]; rfl
 ·rw [List.getElem?_eq_none (by rw [swaps_length]; omega), List.getElem?_eq_none (by rw [List.length_reverse]; omega)]
theorem swaps_next {ps : List (Int × Int)} {k : Nat} (hk : k + k + 1 < ps.length) : ((swaps ps k).set k (ps.getD (ps.length - 1 - k) (0, 0))).set (ps.length - 1 - k) (ps.getD k (0, 0)) = swaps ps (k + 1) := by
 apply List.ext_getElem?
 intro m
 by_cases h : m < ps.length
 ·rw [List.getElem?_set, List.getElem?_set, swaps_get h, swaps_get h, List.length_set, swaps_length]
  by_cases h1 : ps.length - 1 - k = m
  ·rw [if_pos h1, if_pos (by omega), if_pos (by omega)]
   rw [show ps.length - 1 - m = k by omega]
  ·rw [if_neg h1]
   by_cases h2 : k = m
   ·subst h2
    rw [if_pos rfl, if_pos h, if_pos (by omega)]
   ·rw [if_neg h2]
    by_cases h3 : m < k ∨ ps.length - k ≤ m
    ·rw [if_pos h3, if_pos (by omega)]
    ·rw [if_neg h3, if_neg (by omega)]
 ·rw [List.getElem?_eq_none (by rw [List.length_set, List.length_set, swaps_length]; omega), List.getElem?_eq_none (by rw [swaps_length]; omega)]

set_option maxRecDepth 100000 in
set_option maxHeartbeats 1000000 in
theorem reverse_any (w0 : World) (g cap : Nat) (ps : List (Int × Int)) (hn : ps.length ≤ 8796093022208) (w : World) (hr : Row w0 (.slice (some ⟨g, 0, none⟩) ps.length cap) ps w) :
  Calls Tryz.prog 76 #[.slice (some ⟨g, 0, none⟩) ps.length cap] w fun e w' => (∃ v, e = .returned v) ∧ Row w0 (.slice (some ⟨g, 0, none⟩) ps.length cap) ps.reverse w' := by
 have hw1 : IntKind.i64.wrap ((ps.length : Int) - 1) = (ps.length : Int) - 1 := by rw [IntKind.wrap_i64]; omega
 have HR := Lib.hid hr
 go_enter Tryz.func76, Tryz.ntmps76
 go_wp2
 go_loopg [2, 3] (ps.length + 1) (fun n i j wr => ∃ k : Nat, k + k ≤ ps.length + 1 ∧ n = ps.length + 1 - k ∧ i = .int .i64 k ∧ j = .int .i64 ((ps.length : Int) - 1 - k) ∧ Row w0 (.slice (some ⟨g, 0, none⟩) ps.length cap) (swaps ps k) wr)
 case atStart => exact ⟨0, by omega, by omega, rfl, by simp, by rw [swaps_zero]; exact HR.out⟩
 case round =>
  obtain ⟨k, hk, hgk, rfl, rfl, HB⟩ := hrel
  have hgk' := Lib.hid hgk
  clear hgk
  by_cases hlt : k + k + 1 < ps.length
  ·have hlt' : (k : Int) < (ps.length : Int) - 1 - k := by omega
   obtain ⟨m, hm⟩ : ∃ m : Nat, m = ps.length - 1 - k := ⟨_, rfl⟩
   have hm' : (ps.length : Int) - 1 - k = (m : Int) := by omega
   rw [hm'] at hlt' ⊢
   have hsl := swaps_length ps k
   have hP := HB.pts
   obtain ⟨A', cap', e1, hP⟩ := hP
   rw [hsl] at e1
   cases e1
   have g1 := fun i (hi : i < ps.length) => hP.at (Below.refl _ wr) (k := i) (by rw [hsl]; exact hi)
   obtain ⟨ad, e2, -, d0, d1⟩ := g1 k (by omega)
   obtain rfl := Option.some.inj e2
   obtain ⟨ad', e3, -, d2, d3⟩ := g1 m (by omega)
   obtain rfl := Option.some.inj e3
   have hk1 : k < ps.length := by omega
   have hm1 : m < ps.length := by omega
   have HM := Lib.hid (⟨hm, hm'⟩ : m = ps.length - 1 - k ∧ (ps.length : Int) - 1 - k = (m : Int))
   have hkm : k < m := by omega
   have fz := HB.frozen
   have fz0 := fz (k * 2)
   have fz1 := fz (k * 2 + 1)
   have fz2 := fz (m * 2)
   have fz3 := fz (m * 2 + 1)
   have ea : (swaps ps k)[k]'(by omega) = ps.getD k (0, 0) := by
    have := swaps_get (k := k) hk1
    rw [if_neg (by omega), List.getElem?_eq_getElem (by omega)] at this
    exact Option.some.inj this
   have eb : (swaps ps k)[m]'(by omega) = ps.getD m (0, 0) := by
    have := swaps_get (k := k) hm1
    rw [if_neg (by omega), List.getElem?_eq_getElem (by omega)] at this
    exact Option.some.inj this
   have hnext := swaps_next (ps := ps) (k := k) (by omega)
   rw [← hm] at hnext
   rw [ea] at d0 d1
   rw [eb] at d2 d3
   simp only [add_off] at d0 d1 d2 d3
   have HU := ((HB.drew).put k (ps.getD m (0, 0))).put m (ps.getD k (0, 0))
   rw [hnext] at HU
   have HV := Lib.hid HU
   clear g1 e2 e3 hP hm hm' fz ea eb hnext HU HB
   generalize ps.getD k (0, 0) = a at *
   generalize ps.getD m (0, 0) = b at *
   have hx1 : IntKind.i64.wrap ((k : Int) + 1) = (k : Int) + 1 := by rw [IntKind.wrap_i64]; omega
   have hx2 : IntKind.i64.wrap ((m : Int) - 1) = (m : Int) - 1 := by rw [IntKind.wrap_i64]; omega
   have hx3 : (m : Int) - 1 = (ps.length : Int) - 1 - ((k + 1 : Nat) : Int) := by have := HM.out.2; omega
   go_upto_region 3 with (fail)
   go_region
   go_wp2
   go_roundg (ps.length + 1 - (k + 1))
   case measure => have := hgk'.out; omega
   case rel => exact ⟨k + 1, by omega, rfl, by simp, by simp, HV.out⟩
  ·have hge : ¬ (k : Int) < (ps.length : Int) - 1 - k := by omega
   have he := swaps_end (ps := ps) (k := k) (by omega)
   rw [he] at HB
   go_wp2
   go_end0
   exact ⟨⟨_, rfl⟩, HB⟩
theorem reverse_nil (w : World) :
  Calls Tryz.prog 76 #[.slice none 0 0] w fun e w' => (∃ v, e = .returned v) ∧ w' = w := by
 go_enter Tryz.func76, Tryz.ntmps76
 go_wp2
 go_loopg [2, 3] 1 (fun n i j wr => n = 1 ∧ i = .int .i64 0 ∧ j = .int .i64 (-1) ∧ wr = w)
 case atStart => exact ⟨rfl, rfl, by simp, rfl⟩
 case round =>
  obtain ⟨rfl, rfl, rfl, rfl⟩ := hrel
  go_wp2
  go_end0
  exact ⟨⟨_, rfl⟩, rfl⟩

set_option maxRecDepth 100000 in
set_option maxHeartbeats 400000 in
theorem Turned_any (ps : List (Int × Int)) (A : Option Addr) (cap : Nat) (hb : ps.length * 16 ≤ 140737488355328) (hnil : NilOk A cap) (w : World) (hr : Pts w w.heap.size A ps) :
  Calls Tryz.prog 58 #[.slice A ps.length cap] w fun e w' => ∃ v, e = .returned v ∧ Row w v ps.reverse w' := by
 have HC := Lib.hid (clone_any ps A cap hb hnil w hr)
 have HREV := Lib.hid (fun W g c (h : Row w (.slice (some ⟨g, 0, none⟩) ps.length c) ps W) => reverse_any w g c ps (by omega) W h)
 have HNIL := Lib.hid reverse_nil
 clear hr hb
 go_enter Tryz.func58, Tryz.ntmps58
 go_wp2_with fail
 go_at_call 50
 refine HC.out.mono ?_
 rintro e w1 ⟨v, rfl, hR⟩
 rcases hR.2.2 with ⟨rfl, h0⟩ | ⟨g, c, cur, rfl, -⟩
 ·have h1 : ps = [] := List.eq_nil_of_length_eq_zero h0
  subst h1
  go_wp2_with fail
  go_at_call 76
  refine (HNIL.out _).mono ?_
  rintro e w2 ⟨⟨v, rfl⟩, rfl⟩
  go_wp2
  go_ret
  exact ⟨_, rfl, hR⟩
 ·go_wp2_with fail
  go_at_call 76
  refine (HREV.out _ _ _ hR).mono ?_
  rintro e w2 ⟨⟨v, rfl⟩, hR2⟩
  go_wp2
  go_ret
  exact ⟨_, rfl, hR2⟩
end Go.Proofs.YtaedlfiafnbceaaGreat
