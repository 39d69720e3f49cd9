/- The contracts of the program's calls follow, fit and passes. -/
import Derived.Test.YtkkdjbmdfpmkpaaEdges
import Derived.Test.YtkkdjbmdfpmkpaaWind
import Derived.Test.YtkkdjbmdfpmkpaaMeets3
import Derived.Test.YtkkdjbmdfpmkpaaGeoAns
namespace Go.Proofs.Ytkkdjbmdfpmkpaa
open Go.RowKit

/-- Whether the edges i and j, i below j, follow one another. -/
def flw (i j n : Nat) : Bool := decide (j - i = 1 ∨ j - i = n - 1)
def fitV (a b c d : Int × Int) (f : Bool) : Bool := decide (meetN a b c d = if f then 1 else 0)

set_option maxHeartbeats 800000 in
theorem follow_any (i j n : Nat) (hij : i < j) (hj : j < n) (hn : n ≤ 128) (w : World) :
    Calls Try.prog 58 #[.int .i64 i, .int .i64 j, .int .i64 n] w fun e w' => e = .returned (.bool (flw i j n)) ∧ w' = w := by
  have e1 : IntKind.i64.wrap ((j : Int) - i) = (j : Int) - i := by rw [IntKind.wrap_i64]; omega
  have e2 : IntKind.i64.wrap ((n : Int) - 1) = (n : Int) - 1 := by rw [IntKind.wrap_i64]; omega
  unfold flw
  by_cases h1 : j - i = 1
  · have h2 : (j : Int) - i = 1 := by omega
    rw [decide_eq_true (.inl h1)]
    go_enter Try.func58, Try.ntmps58
    go_wp2
    go_ret
    exact ⟨rfl, rfl⟩
  · have h2 : ¬ (j : Int) - i = 1 := by omega
    by_cases h3 : j - i = n - 1
    · have h4 : (j : Int) - i = (n : Int) - 1 := by omega
      rw [decide_eq_true (.inr h3)]
      go_enter Try.func58, Try.ntmps58
      go_wp2
      go_ret
      exact ⟨rfl, rfl⟩
    · have h4 : ¬ (j : Int) - i = (n : Int) - 1 := by omega
      rw [decide_eq_false (by omega)]
      go_enter Try.func58, Try.ntmps58
      go_wp2
      go_ret
      exact ⟨by simp [h2, h4], rfl⟩
theorem Hold.top1 {w W : World} {L : List (Nat × Array Value × TypeId)} {g : Nat} {t : TypeId} {x : Value} (h : Hold w ((g, #[x], t) :: L) W) : W.cell? ⟨g, 0, none⟩ = some x ∧ W.frozen? ⟨g, 0, none⟩ = false :=
  ⟨h.cell List.mem_cons_self 0, h.frozen List.mem_cons_self 0⟩
theorem Hold.four {w W : World} {L : List (Nat × Array Value × TypeId)} {g : Nat} {t : TypeId} {x y z u : Value} (h : Hold w L W) (hm : (g, #[x, y, z, u], t) ∈ L) :
    W.cell? ⟨g, 0, none⟩ = some x ∧ W.cell? ⟨g, 1, none⟩ = some y ∧ W.cell? ⟨g, 2, none⟩ = some z ∧ W.cell? ⟨g, 3, none⟩ = some u := ⟨h.cell hm 0, h.cell hm 1, h.cell hm 2, h.cell hm 3⟩

set_option maxHeartbeats 800000 in
theorem fit_any (a b c d : Int × Int) (ha : Gd a) (hb : Gd b) (hc : Gd c) (hd : Gd d) (f : Bool) (w : World) :
    Calls Try.prog 57 #[edV a b, edV c d, .bool f] w fun e w' => e = .returned (.bool (fitV a b c d f)) ∧ Below w.heap.size w w' := by
  have HQ := ((Hold.refl w).new #[.int .i64 a.1, .int .i64 a.2, .int .i64 b.1, .int .i64 b.2] 57).new' #[.int .i64 c.1, .int .i64 c.2, .int .i64 d.1, .int .i64 d.2] 57 (n := w.heap.size + 1) (by simp only [World.size_alloc])
  have HM := Lib.hid (fun W => by
    have := Meet_any a b c d W
    unfold mv me at this
    rw [if_pos (gdL_four.2 ⟨ha, hb, hc, hd⟩), if_pos (gdL_four.2 ⟨ha, hb, hc, hd⟩)] at this
    exact this)
  unfold edV fitV
  obtain ⟨c0, c1, c2, c3⟩ := HQ.four (.tail _ (.head _))
  obtain ⟨d0, d1, d2, d3⟩ := HQ.four (.head _)
  cases f
  · go_enter Try.func57, Try.ntmps57
    go_wp2_with (go_at_call 69; go_must (refine (HM.out _).mono ?_; rintro e w1 ⟨rfl, hB⟩))
    go_ret
    exact ⟨by simp only [Array.getD_eq_getD_getElem?, List.getElem?_toArray, List.getElem?_cons_zero, List.getElem?_cons_succ, Option.getD_some]; rfl, (HQ.on (hB.mono (by simp only [World.size_alloc]; omega))).1⟩
  · go_enter Try.func57, Try.ntmps57
    go_wp2_with (go_at_call 69; go_must (refine (HM.out _).mono ?_; rintro e w1 ⟨rfl, hB⟩))
    go_ret
    exact ⟨by simp only [Array.getD_eq_getD_getElem?, List.getElem?_toArray, List.getElem?_cons_zero, List.getElem?_cons_succ, Option.getD_some]; rfl, (HQ.on (hB.mono (by simp only [World.size_alloc]; omega))).1⟩

set_option maxHeartbeats 1600000 in
theorem passes_any (a b p : Int × Int) (ha : Gd a) (hb : Gd b) (hp : Gd p) (w : World) :
    Calls Try.prog 37 #[edV a b, .agg #[.int .i64 p.1, .int .i64 p.2]] w fun e w' => e = .returned (.int .i64 (psv a b p)) ∧ Below w.heap.size w w' := by
  have HQ := ((Hold.refl w).new #[.int .i64 a.1, .int .i64 a.2, .int .i64 b.1, .int .i64 b.2] 57).new' #[.int .i64 p.1, .int .i64 p.2] 35 (n := w.heap.size + 1) (by simp only [World.size_alloc])
  have HM := Lib.hid (fun W => by
    have := Turn_any a b p W
    unfold tv te at this
    rw [if_pos (gdL_three.2 ⟨ha, hb, hp⟩), if_pos (gdL_three.2 ⟨ha, hb, hp⟩)] at this
    exact this)
  have HV : Hid ((a.2 < p.2 ∧ p.2 ≤ b.2 ∧ 0 < sgn (crs a b p) ∧ psv a b p = 1) ∨ (¬ (a.2 < p.2 ∧ p.2 ≤ b.2 ∧ 0 < sgn (crs a b p)) ∧ b.2 < p.2 ∧ p.2 ≤ a.2 ∧ sgn (crs a b p) < 0 ∧ psv a b p = -1) ∨ (¬ (a.2 < p.2 ∧ p.2 ≤ b.2 ∧ 0 < sgn (crs a b p)) ∧ ¬ (b.2 < p.2 ∧ p.2 ≤ a.2 ∧ sgn (crs a b p) < 0) ∧ psv a b p = 0)) := by
    refine Lib.hid ?_
    simp only [sgn_gt, sgn_lt]
    unfold psv
    split
    · rename_i h; exact .inl ⟨h.1, h.2.1, h.2.2, rfl⟩
    · rename_i h
      split
      · rename_i h'; exact .inr (.inl ⟨h, h'.1, h'.2.1, h'.2.2, rfl⟩)
      · rename_i h'; exact .inr (.inr ⟨h, h', rfl⟩)
  unfold edV
  obtain ⟨c0, c1, c2, c3⟩ := HQ.four (.tail _ (.head _))
  obtain ⟨d0, d1⟩ := HQ.pt (.head _)
  generalize sgn (crs a b p) = s at *
  generalize psv a b p = v at *
  go_enter Try.func37, Try.ntmps37
  go_wp2_with (go_at_call 60; go_must (refine (HM.out _).mono ?_; rintro e w1 ⟨rfl, hB⟩; replace HQ := HQ.on (hB.mono (by simp only [World.size_alloc]; omega)); clear c0 c1 c2 c3 d0 d1; obtain ⟨c0, c1, c2, c3⟩ := HQ.four (.tail _ (.head _)); obtain ⟨d0, d1⟩ := HQ.pt (.head _)))
  all_goals go_ret
  all_goals refine ⟨?_, HQ.1⟩
  all_goals have hv := HV.out
  all_goals clear HV HQ hB c0 c1 c2 c3 d0 d1 HM
  all_goals simp only [Array.getD_eq_getD_getElem?, List.getElem?_toArray, List.getElem?_cons_zero, List.getElem?_cons_succ, Option.getD_some]
  all_goals refine congrArg (fun z => Ending.returned (Value.int IntKind.i64 z)) ?_
  all_goals omega
end Go.Proofs.Ytkkdjbmdfpmkpaa
