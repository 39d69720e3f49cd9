/- The contract of the program's list of ends that two stretches share. -/
import Derived.Test.YtkkdjbmdfpmkpaaGeo4
namespace Go.Proofs.Ytkkdjbmdfpmkpaa
open Go.RowKit

/-- The ends of one stretch that are points of the other. -/
def ends2 (c d : Int × Int) (l : List (Int × Int)) : List (Int × Int) := l.filter (onB c d)
def ends (a b c d : Int × Int) : List (Int × Int) := ends2 c d [a, b] ++ ends2 a b [c, d]
theorem ends2_len (c d : Int × Int) (l : List (Int × Int)) : (ends2 c d l).length ≤ l.length := List.length_filter_le _ _

theorem ends2_yes {c d p : Int × Int} {l : List (Int × Int)} (h : onB c d p = true) : ends2 c d (l ++ [p]) = ends2 c d l ++ [p] := by
  unfold ends2; rw [List.filter_append]; simp [h]
theorem ends2_no {c d p : Int × Int} {l : List (Int × Int)} (h : onB c d p = false) : ends2 c d (l ++ [p]) = ends2 c d l := by
  unfold ends2; rw [List.filter_append]; simp [h]
theorem ends_yes {a b p : Int × Int} {m l : List (Int × Int)} (h : onB a b p = true) : m ++ ends2 a b (l ++ [p]) = (m ++ ends2 a b l) ++ [p] := by
  rw [ends2_yes h, List.append_assoc]
theorem ends_no {a b p : Int × Int} {m l : List (Int × Int)} (h : onB a b p = false) : m ++ ends2 a b (l ++ [p]) = m ++ ends2 a b l := by
  rw [ends2_no h]
theorem ends_short (a b c d x : Int × Int) : (ends2 c d [a, b] ++ ends2 a b [x]).length ≤ 1000000000 := by
  have h1 := ends2_len c d [a, b]
  have h2 := ends2_len a b [x]
  rw [List.length_append]
  simp only [List.length_cons, List.length_nil] at h1 h2
  omega
theorem arr_0 (x y x' y' : Int) (w : World) : (Instr.index 105 (.agg #[.int .i64 x, .int .i64 y, .int .i64 x', .int .i64 y']) (.int .i64 0)).run Try.prog w = .ok (.agg #[.int .i64 x, .int .i64 y]) w := by kernel_rfl
theorem arr_1 (x y x' y' : Int) (w : World) : (Instr.index 105 (.agg #[.int .i64 x, .int .i64 y, .int .i64 x', .int .i64 y']) (.int .i64 1)).run Try.prog w = .ok (.agg #[.int .i64 x', .int .i64 y']) w := by kernel_rfl

set_option maxRecDepth 100000 in
set_option maxHeartbeats 2000000 in
theorem shared_any (a b c d : Int × Int) (ha : Gd a) (hb : Gd b) (hc : Gd c) (hd : Gd d) (w : World) :
    Calls Try.prog 74 #[.agg #[.int .i64 a.1, .int .i64 a.2], .agg #[.int .i64 b.1, .int .i64 b.2], .agg #[.int .i64 c.1, .int .i64 c.2], .agg #[.int .i64 d.1, .int .i64 d.2]] w fun e w' => ∃ A cap, e = .returned (.slice A (ends a b c d).length cap) ∧ Pts w' w'.heap.size A (ends a b c d) ∧ Below w.heap.size w w' := by
  have hx := fun p hp W => on_any c d p hc hd hp W
  have hy := fun p hp W => on_any a b p ha hb hp W
  have HX := Lib.hid hx
  have HY := Lib.hid hy
  have GA := Lib.hid ha
  have GB := Lib.hid hb
  have GC := Lib.hid hc
  have GD := Lib.hid hd
  have HQ := Hold.four0 w a b c d
  clear hx hy ha hb hc hd
  go_enter Try.func74, Try.ntmps74
  go_wp2_with fail
  generalize (World.alloc _ _) = W1 at HQ ⊢
  generalize w.heap.size + 1 + 1 + 1 = g6 at HQ ⊢
  generalize w.heap.size + 1 + 1 = g5 at HQ ⊢
  generalize w.heap.size + 1 = g4 at HQ ⊢
  go_loopw [9, 17] (fun v i wr => (i = .int .i64 0 ∧ Row W1 v (([] : List (Int × Int))) wr) ∨ (i = .int .i64 1 ∧ Row W1 v (ends2 c d [a]) wr) ∨ (i = .int .i64 2 ∧ Row W1 v (ends2 c d [a, b]) wr)) (fun _ i _ => 2 - (intOf i).toNat)
  case atStart => exact .inl ⟨rfl, Row.nil (Below.refl _ _)⟩
  case round =>
    rcases hrel with ⟨rfl, HR⟩ | ⟨rfl, HR⟩ | ⟨rfl, HR⟩
    · obtain ⟨f0, f1, f2, f3, f4, f5, f6, f7⟩ := ((HQ.on HR.1).alloc (Obj.cells #[.int .i64 a.1, .int .i64 a.2] 35)).rd4
      have x0 := arr_0 a.1 a.2 b.1 b.2
      cases h1 : onB c d a
      · have e : ends2 c d [a] = ([] : List (Int × Int)) := ends2_no (l := []) h1
        have HE := Lib.hid e
        clear e
        go_wp2_with fail
        go_at_call 59
        refine (HX.out a GA.out _).mono ?_
        rintro e w1 ⟨rfl, hB⟩
        have HR1 := (HR.alloc (Obj.cells #[.int .i64 a.1, .int .i64 a.2] 35)).on hB
        clear HR hB f0 f1 f2 f3 f4 f5 f6 f7
        go_wp2
        exact ⟨.inr <| .inl ⟨rfl, by rw [HE.out]; exact HR1⟩, by simp [intOf]⟩
      · have e : ends2 c d [a] = ([] : List (Int × Int)) ++ [a] := ends2_yes (l := []) h1
        have HE := Lib.hid e
        clear e
        go_wp2_with fail
        go_at_call 59
        refine (HX.out a GA.out _).mono ?_
        rintro e w1 ⟨rfl, hB⟩
        have HR1 := (HR.alloc (Obj.cells #[.int .i64 a.1, .int .i64 a.2] 35)).on hB
        have HP := (((HQ.on HR.1).new #[.int .i64 a.1, .int .i64 a.2] 35).on hB).top
        obtain ⟨k0, k1, -, -⟩ := HP
        have hn : (([] : List (Int × Int))).length ≤ 1000000000 := Nat.zero_le _
        have HN := Lib.hid hn
        clear hn HR hB f0 f1 f2 f3 f4 f5 f6 f7
        go_wp2_with (at_builtin; refine append_point HR1 HN.out a _ rfl _ _ rfl rfl _ rfl ?_; rintro v' w2 HR2)
        exact ⟨.inr <| .inl ⟨rfl, by rw [HE.out]; exact HR2⟩, by simp [intOf]⟩
    · obtain ⟨f0, f1, f2, f3, f4, f5, f6, f7⟩ := ((HQ.on HR.1).alloc (Obj.cells #[.int .i64 b.1, .int .i64 b.2] 35)).rd4
      have x0 := arr_1 a.1 a.2 b.1 b.2
      cases h1 : onB c d b
      · have e : ends2 c d [a, b] = ends2 c d [a] := ends2_no (l := [a]) h1
        have HE := Lib.hid e
        clear e
        go_wp2_with fail
        go_at_call 59
        refine (HX.out b GB.out _).mono ?_
        rintro e w1 ⟨rfl, hB⟩
        have HR1 := (HR.alloc (Obj.cells #[.int .i64 b.1, .int .i64 b.2] 35)).on hB
        clear HR hB f0 f1 f2 f3 f4 f5 f6 f7
        go_wp2
        exact ⟨.inr <| .inr ⟨rfl, by rw [HE.out]; exact HR1⟩, by simp [intOf]⟩
      · have e : ends2 c d [a, b] = ends2 c d [a] ++ [b] := ends2_yes (l := [a]) h1
        have HE := Lib.hid e
        clear e
        go_wp2_with fail
        go_at_call 59
        refine (HX.out b GB.out _).mono ?_
        rintro e w1 ⟨rfl, hB⟩
        have HR1 := (HR.alloc (Obj.cells #[.int .i64 b.1, .int .i64 b.2] 35)).on hB
        have HP := (((HQ.on HR.1).new #[.int .i64 b.1, .int .i64 b.2] 35).on hB).top
        obtain ⟨k0, k1, -, -⟩ := HP
        have hn : (ends2 c d [a]).length ≤ 1000000000 := Nat.le_trans (ends2_len c d [a]) (by simp)
        have HN := Lib.hid hn
        clear hn HR hB f0 f1 f2 f3 f4 f5 f6 f7
        go_wp2_with (at_builtin; refine append_point HR1 HN.out b _ rfl _ _ rfl rfl _ rfl ?_; rintro v' w2 HR2)
        exact ⟨.inr <| .inr ⟨rfl, by rw [HE.out]; exact HR2⟩, by simp [intOf]⟩
    · obtain ⟨f0, f1, f2, f3, f4, f5, f6, f7⟩ := (HQ.on HR.1).rd4
      clear HX
      go_wp2_with fail
      go_loopw [9, 32] (fun v i wr => (i = .int .i64 0 ∧ Row W1 v (ends2 c d [a, b]) wr) ∨ (i = .int .i64 1 ∧ Row W1 v (ends2 c d [a, b] ++ ends2 a b [c]) wr) ∨ (i = .int .i64 2 ∧ Row W1 v (ends a b c d) wr)) (fun _ i _ => 2 - (intOf i).toNat)
      case atStart => exact .inl ⟨rfl, HR⟩
      case round =>
        clear HR
        rcases hrel with ⟨rfl, HR⟩ | ⟨rfl, HR⟩ | ⟨rfl, HR⟩
        · obtain ⟨f0, f1, f2, f3, f4, f5, f6, f7⟩ := ((HQ.on HR.1).alloc (Obj.cells #[.int .i64 c.1, .int .i64 c.2] 35)).rd4
          have x0 := arr_0 c.1 c.2 d.1 d.2
          cases h1 : onB a b c
          · have e : ends2 c d [a, b] ++ ends2 a b [c] = ends2 c d [a, b] := (ends_no (m := ends2 c d [a, b]) (l := []) h1).trans (List.append_nil _)
            have HE := Lib.hid e
            clear e
            go_wp2_with fail
            go_at_call 59
            refine (HY.out c GC.out _).mono ?_
            rintro e w1 ⟨rfl, hB⟩
            have HR1 := (HR.alloc (Obj.cells #[.int .i64 c.1, .int .i64 c.2] 35)).on hB
            clear HR hB f0 f1 f2 f3 f4 f5 f6 f7
            go_wp2
            exact ⟨.inr <| .inl ⟨rfl, by rw [HE.out]; exact HR1⟩, by simp [intOf]⟩
          · have e : ends2 c d [a, b] ++ ends2 a b [c] = ends2 c d [a, b] ++ [c] := (ends_yes (m := ends2 c d [a, b]) (l := []) h1).trans (congrArg (· ++ [c]) (List.append_nil _))
            have HE := Lib.hid e
            clear e
            go_wp2_with fail
            go_at_call 59
            refine (HY.out c GC.out _).mono ?_
            rintro e w1 ⟨rfl, hB⟩
            have HR1 := (HR.alloc (Obj.cells #[.int .i64 c.1, .int .i64 c.2] 35)).on hB
            have HP := (((HQ.on HR.1).new #[.int .i64 c.1, .int .i64 c.2] 35).on hB).top
            obtain ⟨k0, k1, -, -⟩ := HP
            have hn : (ends2 c d [a, b]).length ≤ 1000000000 := Nat.le_trans (ends2_len c d [a, b]) (by simp)
            have HN := Lib.hid hn
            clear hn HR hB f0 f1 f2 f3 f4 f5 f6 f7
            go_wp2_with (at_builtin; refine append_point HR1 HN.out c _ rfl _ _ rfl rfl _ rfl ?_; rintro v' w2 HR2)
            exact ⟨.inr <| .inl ⟨rfl, by rw [HE.out]; exact HR2⟩, by simp [intOf]⟩
        · obtain ⟨f0, f1, f2, f3, f4, f5, f6, f7⟩ := ((HQ.on HR.1).alloc (Obj.cells #[.int .i64 d.1, .int .i64 d.2] 35)).rd4
          have x0 := arr_1 c.1 c.2 d.1 d.2
          cases h1 : onB a b d
          · have e : ends a b c d = ends2 c d [a, b] ++ ends2 a b [c] := ends_no (m := ends2 c d [a, b]) (l := [c]) h1
            have HE := Lib.hid e
            clear e
            go_wp2_with fail
            go_at_call 59
            refine (HY.out d GD.out _).mono ?_
            rintro e w1 ⟨rfl, hB⟩
            have HR1 := (HR.alloc (Obj.cells #[.int .i64 d.1, .int .i64 d.2] 35)).on hB
            clear HR hB f0 f1 f2 f3 f4 f5 f6 f7
            go_wp2
            exact ⟨.inr <| .inr ⟨rfl, by rw [HE.out]; exact HR1⟩, by simp [intOf]⟩
          · have e : ends a b c d = ends2 c d [a, b] ++ ends2 a b [c] ++ [d] := ends_yes (m := ends2 c d [a, b]) (l := [c]) h1
            have HE := Lib.hid e
            clear e
            go_wp2_with fail
            go_at_call 59
            refine (HY.out d GD.out _).mono ?_
            rintro e w1 ⟨rfl, hB⟩
            have HR1 := (HR.alloc (Obj.cells #[.int .i64 d.1, .int .i64 d.2] 35)).on hB
            have HP := (((HQ.on HR.1).new #[.int .i64 d.1, .int .i64 d.2] 35).on hB).top
            obtain ⟨k0, k1, -, -⟩ := HP
            have hn : (ends2 c d [a, b] ++ ends2 a b [c]).length ≤ 1000000000 := ends_short a b c d c
            have HN := Lib.hid hn
            clear hn HR hB f0 f1 f2 f3 f4 f5 f6 f7
            go_wp2_with (at_builtin; refine append_point HR1 HN.out d _ rfl _ _ rfl rfl _ rfl ?_; rintro v' w2 HR2)
            exact ⟨.inr <| .inr ⟨rfl, by rw [HE.out]; exact HR2⟩, by simp [intOf]⟩
        · obtain ⟨A, cap, rfl, HP⟩ := HR.pts
          have HB := Lib.hid (HQ.on HR.1).1
          have HP' := Lib.hid HP
          clear HP HR
          go_wp2
          go_ret
          exact ⟨A, cap, rfl, HP'.out, HB.out⟩
end Go.Proofs.Ytkkdjbmdfpmkpaa
