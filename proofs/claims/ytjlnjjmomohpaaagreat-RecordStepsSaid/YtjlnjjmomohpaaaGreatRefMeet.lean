/- The contract of the document's own answer Meet: what two stretches have in common. -/
import Derived.Test.YtjlnjjmomohpaaaGreatGeoR1
import Derived.Test.YtjlnjjmomohpaaaGreatMeets3
namespace Go.Proofs.YtjlnjjmomohpaaaGreat
open Go.RowKit

theorem ends_len (a b c d : Int × Int) : (ends a b c d).length ≤ 4 := by
 have h1 := ends2_len c d [a, b]
 have h2 := ends2_len a b [c, d]
 unfold ends
 rw [List.length_append]
 simp only [List.length_cons, List.length_nil] at h1 h2
 omega

set_option maxRecDepth 100000 in
set_option maxHeartbeats 4000000 in
theorem ref_meet (a b c d : Int × Int) (ha : Gd a) (hb : Gd b) (hc : Gd c) (hd : Gd d) (w : World) :
    Calls Tryz.prog 39 #[.agg #[.int .i64 a.1, .int .i64 a.2], .agg #[.int .i64 b.1, .int .i64 b.2], .agg #[.int .i64 c.1, .int .i64 c.2], .agg #[.int .i64 d.1, .int .i64 d.2]] w fun e w' => e = .returned (.int .i64 (meetN a b c d)) ∧ Below w.heap.size w w' := by
  have hx := fun p hp W => ref_on c d p hc hd hp W
  have hy := fun p hp W => ref_on a b p ha hb hp W
  have h1 := fun W => ref_turn a b c ha hb hc W
  have h2 := fun W => ref_turn a b d ha hb hd W
  have h3 := fun W => ref_turn c d a hc hd ha W
  have h4 := fun W => ref_turn c d b hc hd hb W
  have HX := Lib.hid hx
  have HY := Lib.hid hy
  have T1 := Lib.hid h1
  have T2 := Lib.hid h2
  have T3 := Lib.hid h3
  have T4 := Lib.hid h4
  have GA := Lib.hid ha
  have GB := Lib.hid hb
  have GC := Lib.hid hc
  have GD := Lib.hid hd
  have HN := Lib.hid (show meetN a b c d = if (ends a b c d).length = 0 then (if ptB a b c d && ptB c d a b then 2 else 0) else if oneB (ends a b c d) then 1 else 3 from rfl)
  have HQ := Hold.four0 w a b c d
  clear hx hy h1 h2 h3 h4 ha hb hc hd
  go_enter Tryz.func39, Tryz.ntmps39
  go_upto_region 1 with (fail)
  generalize (World.alloc _ _) = W1 at HQ ⊢
  generalize w.heap.size + 1 + 1 + 1 = g6 at HQ ⊢
  generalize w.heap.size + 1 + 1 = g5 at HQ ⊢
  generalize w.heap.size + 1 = g4 at HQ ⊢
  have HR : Row W1 (.slice none 0 0) [] W1 := Row.nil (Below.refl _ _)
  obtain ⟨f0, f1, f2, f3, f4, f5, f6, f7⟩ := (HQ.on HR.1).rd4
  go_wp2_with fail
  go_at_call 80
  refine (HX.out a GA.out _).mono ?_
  rintro e w1 ⟨rfl, hB⟩
  replace HR := HR.on hB
  clear hB f0 f1 f2 f3 f4 f5 f6 f7
  go_upto_if 14 with (fail)
  go_cut [9] (fun s9 wx => Row W1 s9 (ends2 c d [a]) wx)
  case first =>
    cases h1 : onB c d a
    · have e : ends2 c d [a] = ([] : List (Int × Int)) := ends2_no (l := []) h1
      have HE := Lib.hid e
      clear e
      go_wp2
      go_meet
      exact (by rw [HE.out]; exact HR)
    · have e : ends2 c d [a] = ([] : List (Int × Int)) ++ [a] := ends2_yes (l := []) h1
      have HE := Lib.hid e
      obtain ⟨f0, f1, f2, f3, f4, f5, f6, f7⟩ := (HQ.on HR.1).rd4
      have hn : (([] : List (Int × Int))).length ≤ 1000000000 := Nat.zero_le _
      have HN := Lib.hid hn
      clear hn e
      go_wp2_with (at_builtin; refine append_point HR HN.out a _ rfl _ _ rfl rfl _ rfl ?_; rintro v' w2 HR2)
      go_meet
      exact (by rw [HE.out]; exact HR2)
  case rest =>
    clear HR
    have HR := hcut
    clear hcut
    obtain ⟨f0, f1, f2, f3, f4, f5, f6, f7⟩ := (HQ.on HR.1).rd4
    go_wp2_with fail
    go_at_call 80
    refine (HX.out b GB.out _).mono ?_
    rintro e w1 ⟨rfl, hB⟩
    replace HR := HR.on hB
    clear hB f0 f1 f2 f3 f4 f5 f6 f7
    go_upto_if 22 with (fail)
    go_cut [9] (fun s9 wx => Row W1 s9 (ends2 c d [a, b]) wx)
    case first =>
      cases h1 : onB c d b
      · have e : ends2 c d [a, b] = ends2 c d [a] := ends2_no (l := [a]) h1
        have HE := Lib.hid e
        clear e
        go_wp2
        go_meet
        exact (by rw [HE.out]; exact HR)
      · have e : ends2 c d [a, b] = ends2 c d [a] ++ [b] := ends2_yes (l := [a]) h1
        have HE := Lib.hid e
        obtain ⟨f0, f1, f2, f3, f4, f5, f6, f7⟩ := (HQ.on HR.1).rd4
        have hn : (ends2 c d [a]).length ≤ 1000000000 := Nat.le_trans (ends2_len c d [a]) (by simp)
        have HN := Lib.hid hn
        clear hn e
        go_wp2_with (at_builtin; refine append_point HR HN.out b _ rfl _ _ rfl rfl _ rfl ?_; rintro v' w2 HR2)
        go_meet
        exact (by rw [HE.out]; exact HR2)
    case rest =>
      clear HR
      have HR := hcut
      clear hcut
      obtain ⟨f0, f1, f2, f3, f4, f5, f6, f7⟩ := (HQ.on HR.1).rd4
      go_wp2_with fail
      go_at_call 80
      refine (HY.out c GC.out _).mono ?_
      rintro e w1 ⟨rfl, hB⟩
      replace HR := HR.on hB
      clear hB f0 f1 f2 f3 f4 f5 f6 f7
      go_upto_if 30 with (fail)
      go_cut [9] (fun s9 wx => Row W1 s9 (ends2 c d [a, b] ++ ends2 a b [c]) wx)
      case first =>
        cases h1 : onB a b c
        · have e : ends2 c d [a, b] ++ ends2 a b [c] = ends2 c d [a, b] := (ends_no (m := ends2 c d [a, b]) (l := []) h1).trans (List.append_nil _)
          have HE := Lib.hid e
          clear e
          go_wp2
          go_meet
          exact (by rw [HE.out]; exact HR)
        · have e : ends2 c d [a, b] ++ ends2 a b [c] = ends2 c d [a, b] ++ [c] := (ends_yes (m := ends2 c d [a, b]) (l := []) h1).trans (congrArg (· ++ [c]) (List.append_nil _))
          have HE := Lib.hid e
          obtain ⟨f0, f1, f2, f3, f4, f5, f6, f7⟩ := (HQ.on HR.1).rd4
          have hn : (ends2 c d [a, b]).length ≤ 1000000000 := Nat.le_trans (ends2_len c d [a, b]) (by simp)
          have HN := Lib.hid hn
          clear hn e
          go_wp2_with (at_builtin; refine append_point HR HN.out c _ rfl _ _ rfl rfl _ rfl ?_; rintro v' w2 HR2)
          go_meet
          exact (by rw [HE.out]; exact HR2)
      case rest =>
        clear HR
        have HR := hcut
        clear hcut
        obtain ⟨f0, f1, f2, f3, f4, f5, f6, f7⟩ := (HQ.on HR.1).rd4
        go_wp2_with fail
        go_at_call 80
        refine (HY.out d GD.out _).mono ?_
        rintro e w1 ⟨rfl, hB⟩
        replace HR := HR.on hB
        clear hB f0 f1 f2 f3 f4 f5 f6 f7
        go_upto_if 38 with (fail)
        go_cut [9] (fun s9 wx => Row W1 s9 (ends a b c d) wx)
        case first =>
          cases h1 : onB a b d
          · have e : ends a b c d = ends2 c d [a, b] ++ ends2 a b [c] := ends_no (m := ends2 c d [a, b]) (l := [c]) h1
            have HE := Lib.hid e
            clear e
            go_wp2
            go_meet
            exact (by rw [HE.out]; exact HR)
          · have e : ends a b c d = ends2 c d [a, b] ++ ends2 a b [c] ++ [d] := ends_yes (m := ends2 c d [a, b]) (l := [c]) h1
            have HE := Lib.hid e
            obtain ⟨f0, f1, f2, f3, f4, f5, f6, f7⟩ := (HQ.on HR.1).rd4
            have hn : (ends2 c d [a, b] ++ ends2 a b [c]).length ≤ 1000000000 := ends_short a b c d c
            have HN := Lib.hid hn
            clear hn e
            go_wp2_with (at_builtin; refine append_point HR HN.out d _ rfl _ _ rfl rfl _ rfl ?_; rintro v' w2 HR2)
            go_meet
            exact (by rw [HE.out]; exact HR2)
        case rest =>
          clear HR
          have HR := hcut
          clear hcut
          clear HX HY GA GB GC GD
          obtain ⟨A, cap, rfl, HP⟩ := HR.pts
          replace HQ := HQ.on HR.1
          clear HR
          have hlen : (ends a b c d).length ≤ 4 := ends_len a b c d
          generalize ends a b c d = ps at *
          go_wp2_with fail
          go_loopw [10] (fun i wr => ∃ k : Nat, i = .int .i64 k ∧ 1 ≤ k ∧ (k ≤ ps.length ∨ k = 1) ∧ oneB ps = (ps.drop k).all (fun q => decide (q = ps.headD (0, 0))) ∧ Below wc.heap.size wc wr) (fun i _ => ps.length - (intOf i).toNat)
          case atStart =>
            refine ⟨1, rfl, Nat.le_refl _, .inr rfl, ?_, Below.refl _ _⟩
            cases ps with
            | nil => rfl
            | cons p q => simp [oneB]
          case round =>
            obtain ⟨k, rfl, hk1, hk, hall, hB⟩ := hrel
            by_cases hlt : k < ps.length
            · obtain ⟨ad, rfl, hadb, d0, d1⟩ := HP.at hB hlt
              obtain ⟨ad', e', -, d2, d3⟩ := HP.at hB (show 0 < ps.length by omega)
              obtain rfl := Option.some.inj e'
              have hdrop : ps.drop k = ps[k] :: ps.drop (k + 1) := List.drop_eq_getElem_cons hlt
              have hh : ps.headD (0, 0) = ps[0] := by
                cases ps with
                | nil => simp at hlt
                | cons p q => rfl
              have b0 : (0 : Int) ≤ (k : Int) := by omega
              have b1 : (k : Int) < (ps.length : Int) := by omega
              have b2 : (0 : Int) < (ps.length : Int) := by omega
              have b3 : 0 < ps.length := by omega
              rw [hdrop, List.all_cons, hh] at hall
              clear HP hdrop e'
              have HH := Lib.hid hh
              clear hh
              rw [Nat.zero_mul, add_none] at d2 d3
              generalize ps[k] = p at *
              generalize ps[0] = q at *
              by_cases h1 : p.1 = q.1
              · by_cases h2 : p.2 = q.2
                · obtain rfl : p = q := Prod.ext h1 h2
                  have HG : Hid (oneB ps = (ps.drop (k + 1)).all (fun q => decide (q = ps.headD (0, 0)))) := by unfold Hid; rw [hall, HH.out, decide_eq_true rfl, Bool.true_and]
                  clear hall h1 h2 HH
                  go_upto_region 13 with (fail)
                  go_quiet (fail)
                  go_wp2
                  exact ⟨⟨k + 1, by go_num, by omega, .inl (by omega), HG.out, below_dn hB _⟩, by simp [intOf]; omega⟩
                · have HG : Hid (oneB ps = false) := by unfold Hid; rw [hall, decide_eq_false (fun e => h2 (congrArg Prod.snd e)), Bool.false_and]
                  have HJ : Hid (meetN a b c d = 3) := by unfold Hid; rw [HN.out, if_neg (by omega), HG.out]; rfl
                  have e1 : (p.1 == q.1) = true := by simpa using h1
                  have e2 : (p.2 == q.2) = false := by simpa using h2
                  clear hall h1 h2 HH
                  go_upto_region 13 with (fail)
                  go_quiet (fail)
                  go_wp2
                  go_ret
                  rw [HJ.out]
                  exact ⟨rfl, below_dn (HQ.on hB).1 _⟩
              · have HG : Hid (oneB ps = false) := by unfold Hid; rw [hall, decide_eq_false (fun e => h1 (congrArg Prod.fst e)), Bool.false_and]
                have HJ : Hid (meetN a b c d = 3) := by unfold Hid; rw [HN.out, if_neg (by omega), HG.out]; rfl
                have e1 : (p.1 == q.1) = false := by simpa using h1
                clear hall h1 HH
                go_upto_region 13 with (fail)
                go_quiet (fail)
                go_wp2
                go_ret
                rw [HJ.out]
                exact ⟨rfl, below_dn (HQ.on hB).1 _⟩
            · have HG : Hid (oneB ps = true) := by unfold Hid; rw [hall, List.drop_eq_nil_of_le (by omega)]; rfl
              replace HQ := HQ.on hB
              clear hall HP
              by_cases h0 : ps.length = 0
              · have HK : Hid (meetN a b c d = if ptB a b c d && ptB c d a b then 2 else 0) := by unfold Hid; rw [HN.out, if_pos h0]
                have P1 := Lib.hid (show ptB a b c d = decide (sgn (crs a b c) * sgn (crs a b d) < 0) from rfl)
                have P2 := Lib.hid (show ptB c d a b = decide (sgn (crs c d a) * sgn (crs c d b) < 0) from rfl)
                have hp := sgn_prod (crs a b c) (crs a b d)
                have hp' := sgn_prod (crs c d a) (crs c d b)
                have q1 := wrap_in (n := sgn (crs a b c) * sgn (crs a b d)) (by omega) (by omega)
                have q2 := wrap_in (n := sgn (crs c d a) * sgn (crs c d b)) (by omega) (by omega)
                have e0 : ¬ 0 < ps.length := by omega
                have e1 : ¬ k < ps.length := by omega
                clear HN HG hB hp hp' hk hk1 hlt h0
                cases j1 : ptB a b c d
                · have HJ : Hid (meetN a b c d = 0) := by unfold Hid; rw [HK.out, j1]; rfl
                  have e2 : decide (sgn (crs a b c) * sgn (crs a b d) < 0) = false := by rw [← P1.out]; exact j1
                  clear HK P1 P2 j1
                  go_upto_region 17 with (fail)
                  refine wp_region_held_drew (S := (fun W => W.cell? ⟨w.heap.size, 0, none⟩ = some (.int .i64 a.1) ∧ W.cell? ⟨w.heap.size, 1, none⟩ = some (.int .i64 a.2) ∧ W.cell? ⟨g4, 0, none⟩ = some (.int .i64 b.1) ∧ W.cell? ⟨g4, 1, none⟩ = some (.int .i64 b.2) ∧ W.cell? ⟨g5, 0, none⟩ = some (.int .i64 c.1) ∧ W.cell? ⟨g5, 1, none⟩ = some (.int .i64 c.2) ∧ W.cell? ⟨g6, 0, none⟩ = some (.int .i64 d.1) ∧ W.cell? ⟨g6, 1, none⟩ = some (.int .i64 d.2))) (by kernel_rfl) ?_ (fun hHeld => ?_)
                  · (try dsimp only)
                    (first | exact Hold.rd4 (by assumption) | exact Hold.rd4 (Hold.drew (by assumption)))
                  repeat' (first
                    | (refine wpAnyH_done (by decide +kernel) ?_ _)
                    | (refine takeNone (i := 0) (by decide +kernel) rfl (by rfl) (by decide +kernel) (by decide +kernel) (fun _ _ _ h => h) (by assumption) ?_; (try simp only [Act.put, jA, jB, jD, jE, jF]))
                    | (refine takeSome (i := 0) (v := ?_) (by decide +kernel) rfl (by rfl) (by decide +kernel) (by decide +kernel) (fun _ _ _ h => h) (by assumption) ?_ ?_; rotate_left; (focus (intro w0 hSw; (try dsimp only at hSw); go_simp; (try (with_reducible rfl)); done)); (try simp only [Act.put, jA, jB, jD, jE, jF]))
                    | (refine takeNone (i := 1) (by decide +kernel) rfl (by rfl) (by decide +kernel) (by decide +kernel) (fun _ _ _ h => h) (by assumption) ?_; (try simp only [Act.put, jA, jB, jC, jD, jE, jF]))
                    | (refine takeSome (i := 1) (v := ?_) (by decide +kernel) rfl (by rfl) (by decide +kernel) (by decide +kernel) (fun _ _ _ h => h) (by assumption) ?_ ?_; rotate_left; (focus (intro w0 hSw; (try dsimp only at hSw); go_simp; (try (with_reducible rfl)); done)); (try simp only [Act.put, jA, jB, jC, jD, jE, jF]))
                    | (refine takeNone (i := 2) (by decide +kernel) rfl (by rfl) (by decide +kernel) (by decide +kernel) (fun _ _ _ h => h) (by assumption) ?_; (try simp only [Act.put, jA, jB, jC, jD, jE, jF]))
                    | (refine takeSome (i := 2) (v := ?_) (by decide +kernel) rfl (by rfl) (by decide +kernel) (by decide +kernel) (fun _ _ _ h => h) (by assumption) ?_ ?_; rotate_left; (focus (intro w0 hSw; (try dsimp only at hSw); go_simp; (try (with_reducible rfl)); done)); (try simp only [Act.put, jA, jB, jC, jD, jE, jF]))
                    | (refine takeNone (i := 3) (by decide +kernel) rfl (by rfl) (by decide +kernel) (by decide +kernel) (fun _ _ _ h => h) (by assumption) ?_; (try simp only [Act.put, jA, jB, jC, jD, jE, jF]))
                    | (refine takeSome (i := 3) (v := ?_) (by decide +kernel) rfl (by rfl) (by decide +kernel) (by decide +kernel) (fun _ _ _ h => h) (by assumption) ?_ ?_; rotate_left; (focus (intro w0 hSw; (try dsimp only at hSw); go_simp; (try (with_reducible rfl)); done)); (try simp only [Act.put, jA, jB, jC, jD, jE, jF]))
                    | (refine takeNone (i := 4) (by decide +kernel) rfl (by rfl) (by decide +kernel) (by decide +kernel) (fun _ _ _ h => h) (by assumption) ?_; (try simp only [Act.put, jA, jB, jC, jD, jE, jF]))
                    | (refine takeSome (i := 4) (v := ?_) (by decide +kernel) rfl (by rfl) (by decide +kernel) (by decide +kernel) (fun _ _ _ h => h) (by assumption) ?_ ?_; rotate_left; (focus (intro w0 hSw; (try dsimp only at hSw); go_simp; (try (with_reducible rfl)); done)); (try simp only [Act.put, jA, jB, jC, jD, jE, jF]))
                    | (refine takeNone (i := 5) (by decide +kernel) rfl (by rfl) (by decide +kernel) (by decide +kernel) (fun _ _ _ h => h) (by assumption) ?_; (try simp only [Act.put, jA, jB, jC, jD, jE, jF]))
                    | (refine takeSome (i := 5) (v := ?_) (by decide +kernel) rfl (by rfl) (by decide +kernel) (by decide +kernel) (fun _ _ _ h => h) (by assumption) ?_ ?_; rotate_left; (focus (intro w0 hSw; (try dsimp only at hSw); go_simp; (try (with_reducible rfl)); done)); (try simp only [Act.put, jA, jB, jC, jD, jE, jF]))
                    | (refine takeNone (i := 6) (by decide +kernel) rfl (by rfl) (by decide +kernel) (by decide +kernel) (fun _ _ _ h => h) (by assumption) ?_; (try simp only [Act.put, jA, jB, jC, jD, jE, jF]))
                    | (refine takeSome (i := 6) (v := ?_) (by decide +kernel) rfl (by rfl) (by decide +kernel) (by decide +kernel) (fun _ _ _ h => h) (by assumption) ?_ ?_; rotate_left; (focus (intro w0 hSw; (try dsimp only at hSw); go_simp; (try (with_reducible rfl)); done)); (try simp only [Act.put, jA, jB, jC, jD, jE, jF]))
                    | (refine takeNone (i := 7) (by decide +kernel) rfl (by rfl) (by decide +kernel) (by decide +kernel) (fun _ _ _ h => h) (by assumption) ?_; (try simp only [Act.put, jA, jB, jC, jD, jE, jF]))
                    | (refine takeSome (i := 7) (v := ?_) (by decide +kernel) rfl (by rfl) (by decide +kernel) (by decide +kernel) (fun _ _ _ h => h) (by assumption) ?_ ?_; rotate_left; (focus (intro w0 hSw; (try dsimp only at hSw); go_simp; (try (with_reducible rfl)); done)); (try simp only [Act.put, jA, jB, jC, jD, jE, jF]))
                    | (refine takeNone (i := 8) (by decide +kernel) rfl (by rfl) (by decide +kernel) (by decide +kernel) (fun _ _ _ h => h) (by assumption) ?_; (try simp only [Act.put, jA, jB, jC, jD, jE, jF]))
                    | (refine takeSome (i := 8) (v := ?_) (by decide +kernel) rfl (by rfl) (by decide +kernel) (by decide +kernel) (fun _ _ _ h => h) (by assumption) ?_ ?_; rotate_left; (focus (intro w0 hSw; (try dsimp only at hSw); go_simp; (try (with_reducible rfl)); done)); (try simp only [Act.put, jA, jB, jC, jD, jE, jF]))
                    | (refine takeNone (i := 9) (by decide +kernel) rfl (by rfl) (by decide +kernel) (by decide +kernel) (fun _ _ _ h => h) (by assumption) ?_; (try simp only [Act.put, jA, jB, jC, jD, jE, jF]))
                    | (refine takeSome (i := 9) (v := ?_) (by decide +kernel) rfl (by rfl) (by decide +kernel) (by decide +kernel) (fun _ _ _ h => h) (by assumption) ?_ ?_; rotate_left; (focus (intro w0 hSw; (try dsimp only at hSw); go_simp; (try (with_reducible rfl)); done)); (try simp only [Act.put, jA, jB, jC, jD, jE, jF]))
                    | (refine takeNone (i := 10) (by decide +kernel) rfl (by rfl) (by decide +kernel) (by decide +kernel) (fun _ _ _ h => h) (by assumption) ?_; (try simp only [Act.put, jA, jB, jC, jD, jE, jF]))
                    | (refine takeSome (i := 10) (v := ?_) (by decide +kernel) rfl (by rfl) (by decide +kernel) (by decide +kernel) (fun _ _ _ h => h) (by assumption) ?_ ?_; rotate_left; (focus (intro w0 hSw; (try dsimp only at hSw); go_simp; (try (with_reducible rfl)); done)); (try simp only [Act.put, jA, jB, jC, jD, jE, jF]))
                    | (refine takeNone (i := 11) (by decide +kernel) rfl (by rfl) (by decide +kernel) (by decide +kernel) (fun _ _ _ h => h) (by assumption) ?_; (try simp only [Act.put, jA, jB, jC, jD, jE, jF]))
                    | (refine takeSome (i := 11) (v := ?_) (by decide +kernel) rfl (by rfl) (by decide +kernel) (by decide +kernel) (fun _ _ _ h => h) (by assumption) ?_ ?_; rotate_left; (focus (intro w0 hSw; (try dsimp only at hSw); go_simp; (try (with_reducible rfl)); done)); (try simp only [Act.put, jA, jB, jC, jD, jE, jF]))
                    | (refine takeNone (i := 12) (by decide +kernel) rfl (by rfl) (by decide +kernel) (by decide +kernel) (fun _ _ _ h => h) (by assumption) ?_; (try simp only [Act.put, jA, jB, jC, jD, jE, jF]))
                    | (refine takeSome (i := 12) (v := ?_) (by decide +kernel) rfl (by rfl) (by decide +kernel) (by decide +kernel) (fun _ _ _ h => h) (by assumption) ?_ ?_; rotate_left; (focus (intro w0 hSw; (try dsimp only at hSw); go_simp; (try (with_reducible rfl)); done)); (try simp only [Act.put, jA, jB, jC, jD, jE, jF]))
                    | (refine takeNone (i := 13) (by decide +kernel) rfl (by rfl) (by decide +kernel) (by decide +kernel) (fun _ _ _ h => h) (by assumption) ?_; (try simp only [Act.put, jA, jB, jC, jD, jE, jF]))
                    | (refine takeSome (i := 13) (v := ?_) (by decide +kernel) rfl (by rfl) (by decide +kernel) (by decide +kernel) (fun _ _ _ h => h) (by assumption) ?_ ?_; rotate_left; (focus (intro w0 hSw; (try dsimp only at hSw); go_simp; (try (with_reducible rfl)); done)); (try simp only [Act.put, jA, jB, jC, jD, jE, jF]))
                    | (refine takeNone (i := 14) (by decide +kernel) rfl (by rfl) (by decide +kernel) (by decide +kernel) (fun _ _ _ h => h) (by assumption) ?_; (try simp only [Act.put, jA, jB, jC, jD, jE, jF]))
                    | (refine takeSome (i := 14) (v := ?_) (by decide +kernel) rfl (by rfl) (by decide +kernel) (by decide +kernel) (fun _ _ _ h => h) (by assumption) ?_ ?_; rotate_left; (focus (intro w0 hSw; (try dsimp only at hSw); go_simp; (try (with_reducible rfl)); done)); (try simp only [Act.put, jA, jB, jC, jD, jE, jF]))
                    | (refine takeNone (i := 15) (by decide +kernel) rfl (by rfl) (by decide +kernel) (by decide +kernel) (fun _ _ _ h => h) (by assumption) ?_; (try simp only [Act.put, jA, jB, jC, jD, jE, jF]))
                    | (refine takeSome (i := 15) (v := ?_) (by decide +kernel) rfl (by rfl) (by decide +kernel) (by decide +kernel) (fun _ _ _ h => h) (by assumption) ?_ ?_; rotate_left; (focus (intro w0 hSw; (try dsimp only at hSw); go_simp; (try (with_reducible rfl)); done)); (try simp only [Act.put, jA, jB, jC, jD, jE, jF]))
                    | (refine takeNone (i := 16) (by decide +kernel) rfl (by rfl) (by decide +kernel) (by decide +kernel) (fun _ _ _ h => h) (by assumption) ?_; (try simp only [Act.put, jA, jB, jC, jD, jE, jF]))
                    | (refine takeSome (i := 16) (v := ?_) (by decide +kernel) rfl (by rfl) (by decide +kernel) (by decide +kernel) (fun _ _ _ h => h) (by assumption) ?_ ?_; rotate_left; (focus (intro w0 hSw; (try dsimp only at hSw); go_simp; (try (with_reducible rfl)); done)); (try simp only [Act.put, jA, jB, jC, jD, jE, jF]))
                    | (refine takeNone (i := 17) (by decide +kernel) rfl (by rfl) (by decide +kernel) (by decide +kernel) (fun _ _ _ h => h) (by assumption) ?_; (try simp only [Act.put, jA, jB, jC, jD, jE, jF]))
                    | (refine takeSome (i := 17) (v := ?_) (by decide +kernel) rfl (by rfl) (by decide +kernel) (by decide +kernel) (fun _ _ _ h => h) (by assumption) ?_ ?_; rotate_left; (focus (intro w0 hSw; (try dsimp only at hSw); go_simp; (try (with_reducible rfl)); done)); (try simp only [Act.put, jA, jB, jC, jD, jE, jF]))
                    | (refine takeNone (i := 18) (by decide +kernel) rfl (by rfl) (by decide +kernel) (by decide +kernel) (fun _ _ _ h => h) (by assumption) ?_; (try simp only [Act.put, jA, jB, jC, jD, jE, jF]))
                    | (refine takeSome (i := 18) (v := ?_) (by decide +kernel) rfl (by rfl) (by decide +kernel) (by decide +kernel) (fun _ _ _ h => h) (by assumption) ?_ ?_; rotate_left; (focus (intro w0 hSw; (try dsimp only at hSw); go_simp; (try (with_reducible rfl)); done)); (try simp only [Act.put, jA, jB, jC, jD, jE, jF]))
                    | (refine takeNone (i := 19) (by decide +kernel) rfl (by rfl) (by decide +kernel) (by decide +kernel) (fun _ _ _ h => h) (by assumption) ?_; (try simp only [Act.put, jA, jB, jC, jD, jE, jF]))
                    | (refine takeSome (i := 19) (v := ?_) (by decide +kernel) rfl (by rfl) (by decide +kernel) (by decide +kernel) (fun _ _ _ h => h) (by assumption) ?_ ?_; rotate_left; (focus (intro w0 hSw; (try dsimp only at hSw); go_simp; (try (with_reducible rfl)); done)); (try simp only [Act.put, jA, jB, jC, jD, jE, jF]))
                    | (refine takeNone (i := 20) (by decide +kernel) rfl (by rfl) (by decide +kernel) (by decide +kernel) (fun _ _ _ h => h) (by assumption) ?_; (try simp only [Act.put, jA, jB, jC, jD, jE, jF]))
                    | (refine takeSome (i := 20) (v := ?_) (by decide +kernel) rfl (by rfl) (by decide +kernel) (by decide +kernel) (fun _ _ _ h => h) (by assumption) ?_ ?_; rotate_left; (focus (intro w0 hSw; (try dsimp only at hSw); go_simp; (try (with_reducible rfl)); done)); (try simp only [Act.put, jA, jB, jC, jD, jE, jF]))
                    | (refine takeNone (i := 21) (by decide +kernel) rfl (by rfl) (by decide +kernel) (by decide +kernel) (fun _ _ _ h => h) (by assumption) ?_; (try simp only [Act.put, jA, jB, jC, jD, jE, jF]))
                    | (refine takeSome (i := 21) (v := ?_) (by decide +kernel) rfl (by rfl) (by decide +kernel) (by decide +kernel) (fun _ _ _ h => h) (by assumption) ?_ ?_; rotate_left; (focus (intro w0 hSw; (try dsimp only at hSw); go_simp; (try (with_reducible rfl)); done)); (try simp only [Act.put, jA, jB, jC, jD, jE, jF]))
                    | (refine wpAnyH_ready (rs := [0]) (by decide +kernel) (by simp) ?_; refine AllReadyH.cons rfl (fun K hK => ?_) AllReadyH.nil; (try simp only [jA, jB, jC]); go_simp; (first | (first | (go_at_call 81; (with_reducible refine (T1.out _).mono ?_); rintro e w' ⟨rfl, hB⟩; have HS' := Hold.on (by first | assumption | exact Hold.drew (by assumption)) hB) | (go_at_call 81; (with_reducible refine (T2.out _).mono ?_); rintro e w' ⟨rfl, hB⟩; have HS' := Hold.on (by first | assumption | exact Hold.drew (by assumption)) hB) | (go_at_call 81; (with_reducible refine (T3.out _).mono ?_); rintro e w' ⟨rfl, hB⟩; have HS' := Hold.on (by first | assumption | exact Hold.drew (by assumption)) hB) | (go_at_call 81; (with_reducible refine (T4.out _).mono ?_); rintro e w' ⟨rfl, hB⟩; have HS' := Hold.on (by first | assumption | exact Hold.drew (by assumption)) hB)) | skip); refine hK.out _ _ ?_ (fun hHeld => ?_); (focus ((try dsimp only); (first | exact Hold.rd4 (by assumption) | exact Hold.rd4 (Hold.drew (by assumption))); done)); clear hK K; (try simp only [Act.put, jA, jB, jC, jD, jE, jF]))
                    | (refine wpAnyH_ready (rs := [1]) (by decide +kernel) (by simp) ?_; refine AllReadyH.cons rfl (fun K hK => ?_) AllReadyH.nil; (try simp only [jA, jB, jC]); go_simp; (first | (first | (go_at_call 81; (with_reducible refine (T1.out _).mono ?_); rintro e w' ⟨rfl, hB⟩; have HS' := Hold.on (by first | assumption | exact Hold.drew (by assumption)) hB) | (go_at_call 81; (with_reducible refine (T2.out _).mono ?_); rintro e w' ⟨rfl, hB⟩; have HS' := Hold.on (by first | assumption | exact Hold.drew (by assumption)) hB) | (go_at_call 81; (with_reducible refine (T3.out _).mono ?_); rintro e w' ⟨rfl, hB⟩; have HS' := Hold.on (by first | assumption | exact Hold.drew (by assumption)) hB) | (go_at_call 81; (with_reducible refine (T4.out _).mono ?_); rintro e w' ⟨rfl, hB⟩; have HS' := Hold.on (by first | assumption | exact Hold.drew (by assumption)) hB)) | skip); refine hK.out _ _ ?_ (fun hHeld => ?_); (focus ((try dsimp only); (first | exact Hold.rd4 (by assumption) | exact Hold.rd4 (Hold.drew (by assumption))); done)); clear hK K; (try simp only [Act.put, jA, jB, jC, jD, jE, jF]))
                    | (refine wpAnyH_ready (rs := [2]) (by decide +kernel) (by simp) ?_; refine AllReadyH.cons rfl (fun K hK => ?_) AllReadyH.nil; (try simp only [jA, jB, jC]); go_simp; (first | (first | (go_at_call 81; (with_reducible refine (T1.out _).mono ?_); rintro e w' ⟨rfl, hB⟩; have HS' := Hold.on (by first | assumption | exact Hold.drew (by assumption)) hB) | (go_at_call 81; (with_reducible refine (T2.out _).mono ?_); rintro e w' ⟨rfl, hB⟩; have HS' := Hold.on (by first | assumption | exact Hold.drew (by assumption)) hB) | (go_at_call 81; (with_reducible refine (T3.out _).mono ?_); rintro e w' ⟨rfl, hB⟩; have HS' := Hold.on (by first | assumption | exact Hold.drew (by assumption)) hB) | (go_at_call 81; (with_reducible refine (T4.out _).mono ?_); rintro e w' ⟨rfl, hB⟩; have HS' := Hold.on (by first | assumption | exact Hold.drew (by assumption)) hB)) | skip); refine hK.out _ _ ?_ (fun hHeld => ?_); (focus ((try dsimp only); (first | exact Hold.rd4 (by assumption) | exact Hold.rd4 (Hold.drew (by assumption))); done)); clear hK K; (try simp only [Act.put, jA, jB, jC, jD, jE, jF]))
                    | (refine wpAnyH_ready (rs := [3]) (by decide +kernel) (by simp) ?_; refine AllReadyH.cons rfl (fun K hK => ?_) AllReadyH.nil; (try simp only [jA, jB, jC]); go_simp; (first | (first | (go_at_call 81; (with_reducible refine (T1.out _).mono ?_); rintro e w' ⟨rfl, hB⟩; have HS' := Hold.on (by first | assumption | exact Hold.drew (by assumption)) hB) | (go_at_call 81; (with_reducible refine (T2.out _).mono ?_); rintro e w' ⟨rfl, hB⟩; have HS' := Hold.on (by first | assumption | exact Hold.drew (by assumption)) hB) | (go_at_call 81; (with_reducible refine (T3.out _).mono ?_); rintro e w' ⟨rfl, hB⟩; have HS' := Hold.on (by first | assumption | exact Hold.drew (by assumption)) hB) | (go_at_call 81; (with_reducible refine (T4.out _).mono ?_); rintro e w' ⟨rfl, hB⟩; have HS' := Hold.on (by first | assumption | exact Hold.drew (by assumption)) hB)) | skip); refine hK.out _ _ ?_ (fun hHeld => ?_); (focus ((try dsimp only); (first | exact Hold.rd4 (by assumption) | exact Hold.rd4 (Hold.drew (by assumption))); done)); clear hK K; (try simp only [Act.put, jA, jB, jC, jD, jE, jF]))
                    | (refine wpAnyH_ready (rs := [4]) (by decide +kernel) (by simp) ?_; refine AllReadyH.cons rfl (fun K hK => ?_) AllReadyH.nil; (try simp only [jA, jB, jC]); go_simp; (first | (first | (go_at_call 81; (with_reducible refine (T1.out _).mono ?_); rintro e w' ⟨rfl, hB⟩; have HS' := Hold.on (by first | assumption | exact Hold.drew (by assumption)) hB) | (go_at_call 81; (with_reducible refine (T2.out _).mono ?_); rintro e w' ⟨rfl, hB⟩; have HS' := Hold.on (by first | assumption | exact Hold.drew (by assumption)) hB) | (go_at_call 81; (with_reducible refine (T3.out _).mono ?_); rintro e w' ⟨rfl, hB⟩; have HS' := Hold.on (by first | assumption | exact Hold.drew (by assumption)) hB) | (go_at_call 81; (with_reducible refine (T4.out _).mono ?_); rintro e w' ⟨rfl, hB⟩; have HS' := Hold.on (by first | assumption | exact Hold.drew (by assumption)) hB)) | skip); refine hK.out _ _ ?_ (fun hHeld => ?_); (focus ((try dsimp only); (first | exact Hold.rd4 (by assumption) | exact Hold.rd4 (Hold.drew (by assumption))); done)); clear hK K; (try simp only [Act.put, jA, jB, jC, jD, jE, jF]))
                    | (refine wpAnyH_ready (rs := [5]) (by decide +kernel) (by simp) ?_; refine AllReadyH.cons rfl (fun K hK => ?_) AllReadyH.nil; (try simp only [jA, jB, jC]); go_simp; (first | (first | (go_at_call 81; (with_reducible refine (T1.out _).mono ?_); rintro e w' ⟨rfl, hB⟩; have HS' := Hold.on (by first | assumption | exact Hold.drew (by assumption)) hB) | (go_at_call 81; (with_reducible refine (T2.out _).mono ?_); rintro e w' ⟨rfl, hB⟩; have HS' := Hold.on (by first | assumption | exact Hold.drew (by assumption)) hB) | (go_at_call 81; (with_reducible refine (T3.out _).mono ?_); rintro e w' ⟨rfl, hB⟩; have HS' := Hold.on (by first | assumption | exact Hold.drew (by assumption)) hB) | (go_at_call 81; (with_reducible refine (T4.out _).mono ?_); rintro e w' ⟨rfl, hB⟩; have HS' := Hold.on (by first | assumption | exact Hold.drew (by assumption)) hB)) | skip); refine hK.out _ _ ?_ (fun hHeld => ?_); (focus ((try dsimp only); (first | exact Hold.rd4 (by assumption) | exact Hold.rd4 (Hold.drew (by assumption))); done)); clear hK K; (try simp only [Act.put, jA, jB, jC, jD, jE, jF]))
                    | (refine wpAnyH_ready (rs := [6]) (by decide +kernel) (by simp) ?_; refine AllReadyH.cons rfl (fun K hK => ?_) AllReadyH.nil; (try simp only [jA, jB, jC]); go_simp; (first | (first | (go_at_call 81; (with_reducible refine (T1.out _).mono ?_); rintro e w' ⟨rfl, hB⟩; have HS' := Hold.on (by first | assumption | exact Hold.drew (by assumption)) hB) | (go_at_call 81; (with_reducible refine (T2.out _).mono ?_); rintro e w' ⟨rfl, hB⟩; have HS' := Hold.on (by first | assumption | exact Hold.drew (by assumption)) hB) | (go_at_call 81; (with_reducible refine (T3.out _).mono ?_); rintro e w' ⟨rfl, hB⟩; have HS' := Hold.on (by first | assumption | exact Hold.drew (by assumption)) hB) | (go_at_call 81; (with_reducible refine (T4.out _).mono ?_); rintro e w' ⟨rfl, hB⟩; have HS' := Hold.on (by first | assumption | exact Hold.drew (by assumption)) hB)) | skip); refine hK.out _ _ ?_ (fun hHeld => ?_); (focus ((try dsimp only); (first | exact Hold.rd4 (by assumption) | exact Hold.rd4 (Hold.drew (by assumption))); done)); clear hK K; (try simp only [Act.put, jA, jB, jC, jD, jE, jF]))
                    | (refine wpAnyH_ready (rs := [7]) (by decide +kernel) (by simp) ?_; refine AllReadyH.cons rfl (fun K hK => ?_) AllReadyH.nil; (try simp only [jA, jB, jC]); go_simp; (first | (first | (go_at_call 81; (with_reducible refine (T1.out _).mono ?_); rintro e w' ⟨rfl, hB⟩; have HS' := Hold.on (by first | assumption | exact Hold.drew (by assumption)) hB) | (go_at_call 81; (with_reducible refine (T2.out _).mono ?_); rintro e w' ⟨rfl, hB⟩; have HS' := Hold.on (by first | assumption | exact Hold.drew (by assumption)) hB) | (go_at_call 81; (with_reducible refine (T3.out _).mono ?_); rintro e w' ⟨rfl, hB⟩; have HS' := Hold.on (by first | assumption | exact Hold.drew (by assumption)) hB) | (go_at_call 81; (with_reducible refine (T4.out _).mono ?_); rintro e w' ⟨rfl, hB⟩; have HS' := Hold.on (by first | assumption | exact Hold.drew (by assumption)) hB)) | skip); refine hK.out _ _ ?_ (fun hHeld => ?_); (focus ((try dsimp only); (first | exact Hold.rd4 (by assumption) | exact Hold.rd4 (Hold.drew (by assumption))); done)); clear hK K; (try simp only [Act.put, jA, jB, jC, jD, jE, jF]))
                    | (refine wpAnyH_ready (rs := [8]) (by decide +kernel) (by simp) ?_; refine AllReadyH.cons rfl (fun K hK => ?_) AllReadyH.nil; (try simp only [jA, jB, jC]); go_simp; (first | (first | (go_at_call 81; (with_reducible refine (T1.out _).mono ?_); rintro e w' ⟨rfl, hB⟩; have HS' := Hold.on (by first | assumption | exact Hold.drew (by assumption)) hB) | (go_at_call 81; (with_reducible refine (T2.out _).mono ?_); rintro e w' ⟨rfl, hB⟩; have HS' := Hold.on (by first | assumption | exact Hold.drew (by assumption)) hB) | (go_at_call 81; (with_reducible refine (T3.out _).mono ?_); rintro e w' ⟨rfl, hB⟩; have HS' := Hold.on (by first | assumption | exact Hold.drew (by assumption)) hB) | (go_at_call 81; (with_reducible refine (T4.out _).mono ?_); rintro e w' ⟨rfl, hB⟩; have HS' := Hold.on (by first | assumption | exact Hold.drew (by assumption)) hB)) | skip); refine hK.out _ _ ?_ (fun hHeld => ?_); (focus ((try dsimp only); (first | exact Hold.rd4 (by assumption) | exact Hold.rd4 (Hold.drew (by assumption))); done)); clear hK K; (try simp only [Act.put, jA, jB, jC, jD, jE, jF]))
                    | (refine wpAnyH_ready (rs := [9]) (by decide +kernel) (by simp) ?_; refine AllReadyH.cons rfl (fun K hK => ?_) AllReadyH.nil; (try simp only [jA, jB, jC]); go_simp; (first | (first | (go_at_call 81; (with_reducible refine (T1.out _).mono ?_); rintro e w' ⟨rfl, hB⟩; have HS' := Hold.on (by first | assumption | exact Hold.drew (by assumption)) hB) | (go_at_call 81; (with_reducible refine (T2.out _).mono ?_); rintro e w' ⟨rfl, hB⟩; have HS' := Hold.on (by first | assumption | exact Hold.drew (by assumption)) hB) | (go_at_call 81; (with_reducible refine (T3.out _).mono ?_); rintro e w' ⟨rfl, hB⟩; have HS' := Hold.on (by first | assumption | exact Hold.drew (by assumption)) hB) | (go_at_call 81; (with_reducible refine (T4.out _).mono ?_); rintro e w' ⟨rfl, hB⟩; have HS' := Hold.on (by first | assumption | exact Hold.drew (by assumption)) hB)) | skip); refine hK.out _ _ ?_ (fun hHeld => ?_); (focus ((try dsimp only); (first | exact Hold.rd4 (by assumption) | exact Hold.rd4 (Hold.drew (by assumption))); done)); clear hK K; (try simp only [Act.put, jA, jB, jC, jD, jE, jF]))
                    | (refine wpAnyH_ready (rs := [10]) (by decide +kernel) (by simp) ?_; refine AllReadyH.cons rfl (fun K hK => ?_) AllReadyH.nil; (try simp only [jA, jB, jC]); go_simp; (first | (first | (go_at_call 81; (with_reducible refine (T1.out _).mono ?_); rintro e w' ⟨rfl, hB⟩; have HS' := Hold.on (by first | assumption | exact Hold.drew (by assumption)) hB) | (go_at_call 81; (with_reducible refine (T2.out _).mono ?_); rintro e w' ⟨rfl, hB⟩; have HS' := Hold.on (by first | assumption | exact Hold.drew (by assumption)) hB) | (go_at_call 81; (with_reducible refine (T3.out _).mono ?_); rintro e w' ⟨rfl, hB⟩; have HS' := Hold.on (by first | assumption | exact Hold.drew (by assumption)) hB) | (go_at_call 81; (with_reducible refine (T4.out _).mono ?_); rintro e w' ⟨rfl, hB⟩; have HS' := Hold.on (by first | assumption | exact Hold.drew (by assumption)) hB)) | skip); refine hK.out _ _ ?_ (fun hHeld => ?_); (focus ((try dsimp only); (first | exact Hold.rd4 (by assumption) | exact Hold.rd4 (Hold.drew (by assumption))); done)); clear hK K; (try simp only [Act.put, jA, jB, jC, jD, jE, jF]))
                    | (refine wpAnyH_ready (rs := [11]) (by decide +kernel) (by simp) ?_; refine AllReadyH.cons rfl (fun K hK => ?_) AllReadyH.nil; (try simp only [jA, jB, jC]); go_simp; (first | (first | (go_at_call 81; (with_reducible refine (T1.out _).mono ?_); rintro e w' ⟨rfl, hB⟩; have HS' := Hold.on (by first | assumption | exact Hold.drew (by assumption)) hB) | (go_at_call 81; (with_reducible refine (T2.out _).mono ?_); rintro e w' ⟨rfl, hB⟩; have HS' := Hold.on (by first | assumption | exact Hold.drew (by assumption)) hB) | (go_at_call 81; (with_reducible refine (T3.out _).mono ?_); rintro e w' ⟨rfl, hB⟩; have HS' := Hold.on (by first | assumption | exact Hold.drew (by assumption)) hB) | (go_at_call 81; (with_reducible refine (T4.out _).mono ?_); rintro e w' ⟨rfl, hB⟩; have HS' := Hold.on (by first | assumption | exact Hold.drew (by assumption)) hB)) | skip); refine hK.out _ _ ?_ (fun hHeld => ?_); (focus ((try dsimp only); (first | exact Hold.rd4 (by assumption) | exact Hold.rd4 (Hold.drew (by assumption))); done)); clear hK K; (try simp only [Act.put, jA, jB, jC, jD, jE, jF]))
                    | (refine wpAnyH_ready (rs := [12]) (by decide +kernel) (by simp) ?_; refine AllReadyH.cons rfl (fun K hK => ?_) AllReadyH.nil; (try simp only [jA, jB, jC]); go_simp; (first | (first | (go_at_call 81; (with_reducible refine (T1.out _).mono ?_); rintro e w' ⟨rfl, hB⟩; have HS' := Hold.on (by first | assumption | exact Hold.drew (by assumption)) hB) | (go_at_call 81; (with_reducible refine (T2.out _).mono ?_); rintro e w' ⟨rfl, hB⟩; have HS' := Hold.on (by first | assumption | exact Hold.drew (by assumption)) hB) | (go_at_call 81; (with_reducible refine (T3.out _).mono ?_); rintro e w' ⟨rfl, hB⟩; have HS' := Hold.on (by first | assumption | exact Hold.drew (by assumption)) hB) | (go_at_call 81; (with_reducible refine (T4.out _).mono ?_); rintro e w' ⟨rfl, hB⟩; have HS' := Hold.on (by first | assumption | exact Hold.drew (by assumption)) hB)) | skip); refine hK.out _ _ ?_ (fun hHeld => ?_); (focus ((try dsimp only); (first | exact Hold.rd4 (by assumption) | exact Hold.rd4 (Hold.drew (by assumption))); done)); clear hK K; (try simp only [Act.put, jA, jB, jC, jD, jE, jF]))
                    | (refine wpAnyH_ready (rs := [13]) (by decide +kernel) (by simp) ?_; refine AllReadyH.cons rfl (fun K hK => ?_) AllReadyH.nil; (try simp only [jA, jB, jC]); go_simp; (first | (first | (go_at_call 81; (with_reducible refine (T1.out _).mono ?_); rintro e w' ⟨rfl, hB⟩; have HS' := Hold.on (by first | assumption | exact Hold.drew (by assumption)) hB) | (go_at_call 81; (with_reducible refine (T2.out _).mono ?_); rintro e w' ⟨rfl, hB⟩; have HS' := Hold.on (by first | assumption | exact Hold.drew (by assumption)) hB) | (go_at_call 81; (with_reducible refine (T3.out _).mono ?_); rintro e w' ⟨rfl, hB⟩; have HS' := Hold.on (by first | assumption | exact Hold.drew (by assumption)) hB) | (go_at_call 81; (with_reducible refine (T4.out _).mono ?_); rintro e w' ⟨rfl, hB⟩; have HS' := Hold.on (by first | assumption | exact Hold.drew (by assumption)) hB)) | skip); refine hK.out _ _ ?_ (fun hHeld => ?_); (focus ((try dsimp only); (first | exact Hold.rd4 (by assumption) | exact Hold.rd4 (Hold.drew (by assumption))); done)); clear hK K; (try simp only [Act.put, jA, jB, jC, jD, jE, jF]))
                    | (refine wpAnyH_ready (rs := [14]) (by decide +kernel) (by simp) ?_; refine AllReadyH.cons rfl (fun K hK => ?_) AllReadyH.nil; (try simp only [jA, jB, jC]); go_simp; (first | (first | (go_at_call 81; (with_reducible refine (T1.out _).mono ?_); rintro e w' ⟨rfl, hB⟩; have HS' := Hold.on (by first | assumption | exact Hold.drew (by assumption)) hB) | (go_at_call 81; (with_reducible refine (T2.out _).mono ?_); rintro e w' ⟨rfl, hB⟩; have HS' := Hold.on (by first | assumption | exact Hold.drew (by assumption)) hB) | (go_at_call 81; (with_reducible refine (T3.out _).mono ?_); rintro e w' ⟨rfl, hB⟩; have HS' := Hold.on (by first | assumption | exact Hold.drew (by assumption)) hB) | (go_at_call 81; (with_reducible refine (T4.out _).mono ?_); rintro e w' ⟨rfl, hB⟩; have HS' := Hold.on (by first | assumption | exact Hold.drew (by assumption)) hB)) | skip); refine hK.out _ _ ?_ (fun hHeld => ?_); (focus ((try dsimp only); (first | exact Hold.rd4 (by assumption) | exact Hold.rd4 (Hold.drew (by assumption))); done)); clear hK K; (try simp only [Act.put, jA, jB, jC, jD, jE, jF]))
                    | (refine wpAnyH_ready (rs := [15]) (by decide +kernel) (by simp) ?_; refine AllReadyH.cons rfl (fun K hK => ?_) AllReadyH.nil; (try simp only [jA, jB, jC]); go_simp; (first | (first | (go_at_call 81; (with_reducible refine (T1.out _).mono ?_); rintro e w' ⟨rfl, hB⟩; have HS' := Hold.on (by first | assumption | exact Hold.drew (by assumption)) hB) | (go_at_call 81; (with_reducible refine (T2.out _).mono ?_); rintro e w' ⟨rfl, hB⟩; have HS' := Hold.on (by first | assumption | exact Hold.drew (by assumption)) hB) | (go_at_call 81; (with_reducible refine (T3.out _).mono ?_); rintro e w' ⟨rfl, hB⟩; have HS' := Hold.on (by first | assumption | exact Hold.drew (by assumption)) hB) | (go_at_call 81; (with_reducible refine (T4.out _).mono ?_); rintro e w' ⟨rfl, hB⟩; have HS' := Hold.on (by first | assumption | exact Hold.drew (by assumption)) hB)) | skip); refine hK.out _ _ ?_ (fun hHeld => ?_); (focus ((try dsimp only); (first | exact Hold.rd4 (by assumption) | exact Hold.rd4 (Hold.drew (by assumption))); done)); clear hK K; (try simp only [Act.put, jA, jB, jC, jD, jE, jF]))
                    | (refine wpAnyH_ready (rs := [16]) (by decide +kernel) (by simp) ?_; refine AllReadyH.cons rfl (fun K hK => ?_) AllReadyH.nil; (try simp only [jA, jB, jC]); go_simp; (first | (first | (go_at_call 81; (with_reducible refine (T1.out _).mono ?_); rintro e w' ⟨rfl, hB⟩; have HS' := Hold.on (by first | assumption | exact Hold.drew (by assumption)) hB) | (go_at_call 81; (with_reducible refine (T2.out _).mono ?_); rintro e w' ⟨rfl, hB⟩; have HS' := Hold.on (by first | assumption | exact Hold.drew (by assumption)) hB) | (go_at_call 81; (with_reducible refine (T3.out _).mono ?_); rintro e w' ⟨rfl, hB⟩; have HS' := Hold.on (by first | assumption | exact Hold.drew (by assumption)) hB) | (go_at_call 81; (with_reducible refine (T4.out _).mono ?_); rintro e w' ⟨rfl, hB⟩; have HS' := Hold.on (by first | assumption | exact Hold.drew (by assumption)) hB)) | skip); refine hK.out _ _ ?_ (fun hHeld => ?_); (focus ((try dsimp only); (first | exact Hold.rd4 (by assumption) | exact Hold.rd4 (Hold.drew (by assumption))); done)); clear hK K; (try simp only [Act.put, jA, jB, jC, jD, jE, jF]))
                    | (refine wpAnyH_ready (rs := [17]) (by decide +kernel) (by simp) ?_; refine AllReadyH.cons rfl (fun K hK => ?_) AllReadyH.nil; (try simp only [jA, jB, jC]); go_simp; (first | (first | (go_at_call 81; (with_reducible refine (T1.out _).mono ?_); rintro e w' ⟨rfl, hB⟩; have HS' := Hold.on (by first | assumption | exact Hold.drew (by assumption)) hB) | (go_at_call 81; (with_reducible refine (T2.out _).mono ?_); rintro e w' ⟨rfl, hB⟩; have HS' := Hold.on (by first | assumption | exact Hold.drew (by assumption)) hB) | (go_at_call 81; (with_reducible refine (T3.out _).mono ?_); rintro e w' ⟨rfl, hB⟩; have HS' := Hold.on (by first | assumption | exact Hold.drew (by assumption)) hB) | (go_at_call 81; (with_reducible refine (T4.out _).mono ?_); rintro e w' ⟨rfl, hB⟩; have HS' := Hold.on (by first | assumption | exact Hold.drew (by assumption)) hB)) | skip); refine hK.out _ _ ?_ (fun hHeld => ?_); (focus ((try dsimp only); (first | exact Hold.rd4 (by assumption) | exact Hold.rd4 (Hold.drew (by assumption))); done)); clear hK K; (try simp only [Act.put, jA, jB, jC, jD, jE, jF]))
                    | (refine wpAnyH_ready (rs := [18]) (by decide +kernel) (by simp) ?_; refine AllReadyH.cons rfl (fun K hK => ?_) AllReadyH.nil; (try simp only [jA, jB, jC]); go_simp; (first | (first | (go_at_call 81; (with_reducible refine (T1.out _).mono ?_); rintro e w' ⟨rfl, hB⟩; have HS' := Hold.on (by first | assumption | exact Hold.drew (by assumption)) hB) | (go_at_call 81; (with_reducible refine (T2.out _).mono ?_); rintro e w' ⟨rfl, hB⟩; have HS' := Hold.on (by first | assumption | exact Hold.drew (by assumption)) hB) | (go_at_call 81; (with_reducible refine (T3.out _).mono ?_); rintro e w' ⟨rfl, hB⟩; have HS' := Hold.on (by first | assumption | exact Hold.drew (by assumption)) hB) | (go_at_call 81; (with_reducible refine (T4.out _).mono ?_); rintro e w' ⟨rfl, hB⟩; have HS' := Hold.on (by first | assumption | exact Hold.drew (by assumption)) hB)) | skip); refine hK.out _ _ ?_ (fun hHeld => ?_); (focus ((try dsimp only); (first | exact Hold.rd4 (by assumption) | exact Hold.rd4 (Hold.drew (by assumption))); done)); clear hK K; (try simp only [Act.put, jA, jB, jC, jD, jE, jF]))
                    | (refine wpAnyH_ready (rs := [19]) (by decide +kernel) (by simp) ?_; refine AllReadyH.cons rfl (fun K hK => ?_) AllReadyH.nil; (try simp only [jA, jB, jC]); go_simp; (first | (first | (go_at_call 81; (with_reducible refine (T1.out _).mono ?_); rintro e w' ⟨rfl, hB⟩; have HS' := Hold.on (by first | assumption | exact Hold.drew (by assumption)) hB) | (go_at_call 81; (with_reducible refine (T2.out _).mono ?_); rintro e w' ⟨rfl, hB⟩; have HS' := Hold.on (by first | assumption | exact Hold.drew (by assumption)) hB) | (go_at_call 81; (with_reducible refine (T3.out _).mono ?_); rintro e w' ⟨rfl, hB⟩; have HS' := Hold.on (by first | assumption | exact Hold.drew (by assumption)) hB) | (go_at_call 81; (with_reducible refine (T4.out _).mono ?_); rintro e w' ⟨rfl, hB⟩; have HS' := Hold.on (by first | assumption | exact Hold.drew (by assumption)) hB)) | skip); refine hK.out _ _ ?_ (fun hHeld => ?_); (focus ((try dsimp only); (first | exact Hold.rd4 (by assumption) | exact Hold.rd4 (Hold.drew (by assumption))); done)); clear hK K; (try simp only [Act.put, jA, jB, jC, jD, jE, jF]))
                    | (refine wpAnyH_ready (rs := [20]) (by decide +kernel) (by simp) ?_; refine AllReadyH.cons rfl (fun K hK => ?_) AllReadyH.nil; (try simp only [jA, jB, jC]); go_simp; (first | (first | (go_at_call 81; (with_reducible refine (T1.out _).mono ?_); rintro e w' ⟨rfl, hB⟩; have HS' := Hold.on (by first | assumption | exact Hold.drew (by assumption)) hB) | (go_at_call 81; (with_reducible refine (T2.out _).mono ?_); rintro e w' ⟨rfl, hB⟩; have HS' := Hold.on (by first | assumption | exact Hold.drew (by assumption)) hB) | (go_at_call 81; (with_reducible refine (T3.out _).mono ?_); rintro e w' ⟨rfl, hB⟩; have HS' := Hold.on (by first | assumption | exact Hold.drew (by assumption)) hB) | (go_at_call 81; (with_reducible refine (T4.out _).mono ?_); rintro e w' ⟨rfl, hB⟩; have HS' := Hold.on (by first | assumption | exact Hold.drew (by assumption)) hB)) | skip); refine hK.out _ _ ?_ (fun hHeld => ?_); (focus ((try dsimp only); (first | exact Hold.rd4 (by assumption) | exact Hold.rd4 (Hold.drew (by assumption))); done)); clear hK K; (try simp only [Act.put, jA, jB, jC, jD, jE, jF]))
                    | (refine wpAnyH_ready (rs := [21]) (by decide +kernel) (by simp) ?_; refine AllReadyH.cons rfl (fun K hK => ?_) AllReadyH.nil; (try simp only [jA, jB, jC]); go_simp; (first | (first | (go_at_call 81; (with_reducible refine (T1.out _).mono ?_); rintro e w' ⟨rfl, hB⟩; have HS' := Hold.on (by first | assumption | exact Hold.drew (by assumption)) hB) | (go_at_call 81; (with_reducible refine (T2.out _).mono ?_); rintro e w' ⟨rfl, hB⟩; have HS' := Hold.on (by first | assumption | exact Hold.drew (by assumption)) hB) | (go_at_call 81; (with_reducible refine (T3.out _).mono ?_); rintro e w' ⟨rfl, hB⟩; have HS' := Hold.on (by first | assumption | exact Hold.drew (by assumption)) hB) | (go_at_call 81; (with_reducible refine (T4.out _).mono ?_); rintro e w' ⟨rfl, hB⟩; have HS' := Hold.on (by first | assumption | exact Hold.drew (by assumption)) hB)) | skip); refine hK.out _ _ ?_ (fun hHeld => ?_); (focus ((try dsimp only); (first | exact Hold.rd4 (by assumption) | exact Hold.rd4 (Hold.drew (by assumption))); done)); clear hK K; (try simp only [Act.put, jA, jB, jC, jD, jE, jF]))
                    )
                  go_wp2
                  go_ret
                  rw [HJ.out]
                  exact ⟨rfl, HS'.1⟩
                · have e2 : decide (sgn (crs a b c) * sgn (crs a b d) < 0) = true := by rw [← P1.out]; exact j1
                  cases j2 : ptB c d a b
                  all_goals
                    have e3 := P2.out.symm.trans j2
                  · have HJ : Hid (meetN a b c d = 0) := by unfold Hid; rw [HK.out, j1, j2]; rfl
                    clear HK P1 P2 j1 j2
                    go_upto_region 17 with (fail)
                    go_region_held3 (fun W => W.cell? ⟨w.heap.size, 0, none⟩ = some (.int .i64 a.1) ∧ W.cell? ⟨w.heap.size, 1, none⟩ = some (.int .i64 a.2) ∧ W.cell? ⟨g4, 0, none⟩ = some (.int .i64 b.1) ∧ W.cell? ⟨g4, 1, none⟩ = some (.int .i64 b.2) ∧ W.cell? ⟨g5, 0, none⟩ = some (.int .i64 c.1) ∧ W.cell? ⟨g5, 1, none⟩ = some (.int .i64 c.2) ∧ W.cell? ⟨g6, 0, none⟩ = some (.int .i64 d.1) ∧ W.cell? ⟨g6, 1, none⟩ = some (.int .i64 d.2)) (first | exact Hold.rd4 (by assumption) | exact Hold.rd4 (Hold.drew (by assumption))) (first
              | (go_at_call 81; (with_reducible refine (T1.out _).mono ?_); rintro e w' ⟨rfl, hB⟩; have HS' := Hold.on (by first | assumption | exact Hold.drew (by assumption)) hB)
              | (go_at_call 81; (with_reducible refine (T2.out _).mono ?_); rintro e w' ⟨rfl, hB⟩; have HS' := Hold.on (by first | assumption | exact Hold.drew (by assumption)) hB)
              | (go_at_call 81; (with_reducible refine (T3.out _).mono ?_); rintro e w' ⟨rfl, hB⟩; have HS' := Hold.on (by first | assumption | exact Hold.drew (by assumption)) hB)
              | (go_at_call 81; (with_reducible refine (T4.out _).mono ?_); rintro e w' ⟨rfl, hB⟩; have HS' := Hold.on (by first | assumption | exact Hold.drew (by assumption)) hB))
                    go_wp2
                    go_ret
                    rw [HJ.out]
                    exact ⟨rfl, HS'.1⟩
                  · have HJ : Hid (meetN a b c d = 2) := by unfold Hid; rw [HK.out, j1, j2]; rfl
                    clear HK P1 P2 j1 j2
                    go_upto_region 17 with (fail)
                    go_region_held3 (fun W => W.cell? ⟨w.heap.size, 0, none⟩ = some (.int .i64 a.1) ∧ W.cell? ⟨w.heap.size, 1, none⟩ = some (.int .i64 a.2) ∧ W.cell? ⟨g4, 0, none⟩ = some (.int .i64 b.1) ∧ W.cell? ⟨g4, 1, none⟩ = some (.int .i64 b.2) ∧ W.cell? ⟨g5, 0, none⟩ = some (.int .i64 c.1) ∧ W.cell? ⟨g5, 1, none⟩ = some (.int .i64 c.2) ∧ W.cell? ⟨g6, 0, none⟩ = some (.int .i64 d.1) ∧ W.cell? ⟨g6, 1, none⟩ = some (.int .i64 d.2)) (first | exact Hold.rd4 (by assumption) | exact Hold.rd4 (Hold.drew (by assumption))) (first
              | (go_at_call 81; (with_reducible refine (T1.out _).mono ?_); rintro e w' ⟨rfl, hB⟩; have HS' := Hold.on (by first | assumption | exact Hold.drew (by assumption)) hB)
              | (go_at_call 81; (with_reducible refine (T2.out _).mono ?_); rintro e w' ⟨rfl, hB⟩; have HS' := Hold.on (by first | assumption | exact Hold.drew (by assumption)) hB)
              | (go_at_call 81; (with_reducible refine (T3.out _).mono ?_); rintro e w' ⟨rfl, hB⟩; have HS' := Hold.on (by first | assumption | exact Hold.drew (by assumption)) hB)
              | (go_at_call 81; (with_reducible refine (T4.out _).mono ?_); rintro e w' ⟨rfl, hB⟩; have HS' := Hold.on (by first | assumption | exact Hold.drew (by assumption)) hB))
                    go_wp2
                    go_ret
                    rw [HJ.out]
                    exact ⟨rfl, HS'.1⟩
              · have HJ : Hid (meetN a b c d = 1) := by unfold Hid; rw [HN.out, if_neg h0, HG.out]; rfl
                have e0 : 0 < ps.length := by omega
                have e1 : ¬ k < ps.length := by omega
                have e2 : (0 : Int) < (ps.length : Int) := by omega
                clear HN HG hlt h0
                go_wp2
                go_ret
                rw [HJ.out]
                exact ⟨rfl, HQ.1⟩
end Go.Proofs.YtjlnjjmomohpaaaGreat
