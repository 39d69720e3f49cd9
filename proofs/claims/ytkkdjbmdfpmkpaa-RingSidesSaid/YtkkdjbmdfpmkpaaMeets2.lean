/- The contract of the program's call Meet: what two stretches have in common. -/
import Derived.Test.YtkkdjbmdfpmkpaaMeets1
namespace Go.Proofs.Ytkkdjbmdfpmkpaa
open Go.RowKit

/-- What two stretches have in common, by the ends that they share. -/
def meetN (a b c d : Int × Int) : Int := if (ends a b c d).length = 0 then (if ptB a b c d && ptB c d a b then 2 else 0) else if oneB (ends a b c d) then 1 else 3
theorem add_off (g n : Nat) : (⟨g, 0, none⟩ : Addr).add n = ⟨g, n, none⟩ := by
  unfold Addr.add
  split <;> simp_all
theorem pts_of {w : World} {B g : Nat} {t : TypeId} {ps : List (Int × Int)} (hh : w.heap[g]? = some (.cells (flatP ps).toArray t (0, 0))) (hg : g < B) : Pts w B (some ⟨g, 0, none⟩) ps := by
  intro _
  refine ⟨_, rfl, hg, fun k p hp => ?_⟩
  have hc := fun i => blk_cell hh i
  obtain ⟨g0, g1⟩ := flatP_get ps k
  rw [hp] at g0 g1
  constructor
  · rw [add_off, hc (k * 2), List.getElem?_toArray, g0]; rfl
  · rw [Go.Deep.add_add, add_off, hc (k * 2 + 1), List.getElem?_toArray, g1]; rfl
/-- A list of points in a new block, handed to Good. -/
theorem good_new (ps : List (Int × Int)) (cap : Nat) (w W : World) (t : TypeId) (hn : ps.length ≤ maxLen) (hW : W = w.alloc (Obj.cells (flatP ps).toArray t (0, 0))) :
    Calls Try.prog 25 #[.slice (some ⟨w.heap.size, 0, none⟩) ps.length cap] W fun e w' => e = .returned (.bool (gdL ps)) ∧ Below W.heap.size W w' := by
  subst hW
  exact good_any ps _ cap _ hn (pts_of (heap_alloc_new w _) (by simp only [World.size_alloc]; omega))
theorem good_four (a b c d : Int × Int) (cap : Nat) (w : World) (t : TypeId) :
    Calls Try.prog 25 #[.slice (some ⟨w.heap.size, 0, none⟩) 4 cap] (w.alloc (Obj.cells #[.int .i64 a.1, .int .i64 a.2, .int .i64 b.1, .int .i64 b.2, .int .i64 c.1, .int .i64 c.2, .int .i64 d.1, .int .i64 d.2] t (0, 0))) fun e w' => e = .returned (.bool (gdL [a, b, c, d])) ∧ Below (w.heap.size + 1) (w.alloc (Obj.cells #[.int .i64 a.1, .int .i64 a.2, .int .i64 b.1, .int .i64 b.2, .int .i64 c.1, .int .i64 c.2, .int .i64 d.1, .int .i64 d.2] t (0, 0))) w' := by
  have h := good_new [a, b, c, d] cap w _ t (by unfold maxLen; simp) rfl
  simp only [World.size_alloc] at h
  exact h
theorem good_three (a b c : Int × Int) (cap : Nat) (w : World) (t : TypeId) :
    Calls Try.prog 25 #[.slice (some ⟨w.heap.size, 0, none⟩) 3 cap] (w.alloc (Obj.cells #[.int .i64 a.1, .int .i64 a.2, .int .i64 b.1, .int .i64 b.2, .int .i64 c.1, .int .i64 c.2] t (0, 0))) fun e w' => e = .returned (.bool (gdL [a, b, c])) ∧ Below (w.heap.size + 1) (w.alloc (Obj.cells #[.int .i64 a.1, .int .i64 a.2, .int .i64 b.1, .int .i64 b.2, .int .i64 c.1, .int .i64 c.2] t (0, 0))) w' := by
  have h := good_new [a, b, c] cap w _ t (by unfold maxLen; simp) rfl
  simp only [World.size_alloc] at h
  exact h
theorem good_two (a b : Int × Int) (cap : Nat) (w : World) (t : TypeId) :
    Calls Try.prog 25 #[.slice (some ⟨w.heap.size, 0, none⟩) 2 cap] (w.alloc (Obj.cells #[.int .i64 a.1, .int .i64 a.2, .int .i64 b.1, .int .i64 b.2] t (0, 0))) fun e w' => e = .returned (.bool (gdL [a, b])) ∧ Below (w.heap.size + 1) (w.alloc (Obj.cells #[.int .i64 a.1, .int .i64 a.2, .int .i64 b.1, .int .i64 b.2] t (0, 0))) w' := by
  have h := good_new [a, b] cap w _ t (by unfold maxLen; simp) rfl
  simp only [World.size_alloc] at h
  exact h
theorem gdL_two {a b : Int × Int} : gdL [a, b] = true ↔ Gd a ∧ Gd b := by
  simp only [gdL, List.all_cons, List.all_nil, Bool.and_true, Bool.and_eq_true, gd_iff]
theorem gdL_three {a b c : Int × Int} : gdL [a, b, c] = true ↔ Gd a ∧ Gd b ∧ Gd c := by
  simp only [gdL, List.all_cons, List.all_nil, Bool.and_true, Bool.and_eq_true, gd_iff]
theorem gdL_four {a b c d : Int × Int} : gdL [a, b, c, d] = true ↔ Gd a ∧ Gd b ∧ Gd c ∧ Gd d := by
  simp only [gdL, List.all_cons, List.all_nil, Bool.and_true, Bool.and_eq_true, gd_iff]

set_option maxRecDepth 100000 in
set_option maxHeartbeats 2000000 in
theorem meet_bad (a b c d : Int × Int) (hg : gdL [a, b, c, d] = false) (w : World) :
    Calls Try.prog 69 #[.agg #[.int .i64 a.1, .int .i64 a.2], .agg #[.int .i64 b.1, .int .i64 b.2], .agg #[.int .i64 c.1, .int .i64 c.2], .agg #[.int .i64 d.1, .int .i64 d.2]] w fun e w' => e = .returned (.tuple #[.int .i64 0, .int .i64 3]) ∧ Below w.heap.size w w' := by
  have HQ := Hold.four0 w a b c d
  go_enter Try.func69, Try.ntmps69
  go_upto_region 1 with (fail)
  generalize (World.alloc _ _) = W1 at HQ ⊢
  generalize w.heap.size + 1 + 1 + 1 = g6 at HQ ⊢
  generalize w.heap.size + 1 + 1 = g5 at HQ ⊢
  generalize w.heap.size + 1 = g4 at HQ ⊢
  obtain ⟨f0, f1, f2, f3, f4, f5, f6, f7⟩ := HQ.rd4
  go_wp2_with fail
  go_at_call 25
  refine (good_four a b c d _ _ _).mono ?_
  rintro e w1 ⟨rfl, hB⟩
  replace HQ := (HQ.alloc _).on (hB.mono (by simp only [World.size_alloc]; omega))
  clear hB f0 f1 f2 f3 f4 f5 f6 f7
  go_wp2
  go_ret2
  exact ⟨rfl, HQ.1⟩

set_option maxRecDepth 100000 in
set_option maxHeartbeats 2000000 in
theorem meet_good (a b c d : Int × Int) (hg : gdL [a, b, c, d] = true) (w : World) :
    Calls Try.prog 69 #[.agg #[.int .i64 a.1, .int .i64 a.2], .agg #[.int .i64 b.1, .int .i64 b.2], .agg #[.int .i64 c.1, .int .i64 c.2], .agg #[.int .i64 d.1, .int .i64 d.2]] w fun e w' => e = .returned (.tuple #[.int .i64 (meetN a b c d), .int .i64 0]) ∧ Below w.heap.size w w' := by
  obtain ⟨ha, hb, hc, hd⟩ := gdL_four.1 hg
  have hs := fun W => shared_any a b c d ha hb hc hd W
  have hp := fun W => parts_any a b c d ha hb hc hd W
  have hq := fun W => parts_any c d a b hc hd ha hb W
  have HS := Lib.hid hs
  have HP := Lib.hid hp
  have HQ' := Lib.hid hq
  have HN := Lib.hid (show meetN a b c d = if (ends a b c d).length = 0 then (if ptB a b c d && ptB c d a b then 2 else 0) else if oneB (ends a b c d) then 1 else 3 from rfl)
  have hlen : (ends a b c d).length ≤ 4 := by
    have h1 := ends2_len c d [a, b]
    have h2 := ends2_len a b [c, d]
    unfold ends
    rw [List.length_append]
    simp only [List.length_cons, List.length_nil] at h1 h2
    omega
  have HL := Lib.hid (show (ends a b c d).length ≤ maxLen by unfold maxLen; omega)
  clear hs hp hq ha hb hc hd hlen
  have HQ := Hold.four0 w a b c d
  go_enter Try.func69, Try.ntmps69
  go_upto_region 1 with (fail)
  generalize (World.alloc _ _) = W1 at HQ ⊢
  generalize w.heap.size + 1 + 1 + 1 = g6 at HQ ⊢
  generalize w.heap.size + 1 + 1 = g5 at HQ ⊢
  generalize w.heap.size + 1 = g4 at HQ ⊢
  obtain ⟨f0, f1, f2, f3, f4, f5, f6, f7⟩ := HQ.rd4
  go_wp2_with fail
  go_at_call 25
  refine (good_four a b c d _ _ _).mono ?_
  rintro e w1 ⟨rfl, hB⟩
  replace HQ := (HQ.alloc _).on (hB.mono (by simp only [World.size_alloc]; omega))
  clear hB f0 f1 f2 f3 f4 f5 f6 f7
  obtain ⟨f0, f1, f2, f3, f4, f5, f6, f7⟩ := HQ.rd4
  go_wp2_with fail
  go_at_call 74
  refine (HS.out _).mono ?_
  rintro e w2 ⟨A, cap, rfl, hpt, hB⟩
  replace HQ := HQ.on hB
  have HT := Lib.hid hpt
  clear hB hpt HS f0 f1 f2 f3 f4 f5 f6 f7
  by_cases h0 : (ends a b c d).length = 0
  · have e0 : (((ends a b c d).length : Int) == 0) = true := by rw [h0]; rfl
    have HK : Hid (meetN a b c d = if ptB a b c d && ptB c d a b then 2 else 0) := by unfold Hid; rw [HN.out, if_pos h0]
    clear HN HT h0
    obtain ⟨f0, f1, f2, f3, f4, f5, f6, f7⟩ := HQ.rd4
    go_wp2_with fail
    go_at_call 75
    refine (HP.out _).mono ?_
    rintro e w3 ⟨rfl, hB⟩
    replace HQ := HQ.on hB
    clear hB HP f0 f1 f2 f3 f4 f5 f6 f7
    cases h1 : ptB a b c d
    · have HJ : Hid (meetN a b c d = 0) := by unfold Hid; rw [HK.out, h1]; rfl
      clear HK
      go_wp2
      go_ret2
      rw [HJ.out]
      exact ⟨rfl, HQ.1⟩
    · obtain ⟨f0, f1, f2, f3, f4, f5, f6, f7⟩ := HQ.rd4
      go_wp2_with fail
      go_at_call 75
      refine (HQ'.out _).mono ?_
      rintro e w4 ⟨rfl, hB⟩
      replace HQ := HQ.on hB
      clear hB f0 f1 f2 f3 f4 f5 f6 f7
      cases h2 : ptB c d a b
      · have HJ : Hid (meetN a b c d = 0) := by unfold Hid; rw [HK.out, h1, h2]; rfl
        clear HK
        go_wp2
        go_ret2
        rw [HJ.out]
        exact ⟨rfl, HQ.1⟩
      · have HJ : Hid (meetN a b c d = 2) := by unfold Hid; rw [HK.out, h1, h2]; rfl
        clear HK
        go_wp2
        go_ret2
        rw [HJ.out]
        exact ⟨rfl, HQ.1⟩
  · have e0 : (((ends a b c d).length : Int) == 0) = false := by simpa using h0
    have HK : Hid (meetN a b c d = if oneB (ends a b c d) then 1 else 3) := by unfold Hid; rw [HN.out, if_neg h0]
    clear HN h0
    go_wp2_with fail
    go_at_call 76
    refine (alone_any (ends a b c d) A cap _ HL.out HT.out).mono ?_
    rintro e w3 ⟨rfl, hB⟩
    replace HQ := HQ.on hB
    clear hB HT
    cases h1 : oneB (ends a b c d)
    · have HJ : Hid (meetN a b c d = 3) := by unfold Hid; rw [HK.out, h1]; rfl
      clear HK
      go_wp2
      go_ret2
      rw [HJ.out]
      exact ⟨rfl, HQ.1⟩
    · have HJ : Hid (meetN a b c d = 1) := by unfold Hid; rw [HK.out, h1]; rfl
      clear HK
      go_wp2
      go_ret2
      rw [HJ.out]
      exact ⟨rfl, HQ.1⟩
end Go.Proofs.Ytkkdjbmdfpmkpaa
