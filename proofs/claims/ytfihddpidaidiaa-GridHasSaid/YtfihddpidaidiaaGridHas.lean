/- The law GridHas: a point of a window, and one of a polygon, lies in one of its cells. -/
import Derived.Test.YtfihddpidaidiaaGridC
import Derived.Test.YtfihddpidaidiaaGridH
namespace Go.Proofs.Ytfihddpidaidiaa.gridHas
open Go.RowKit

theorem has_in {L H p : Int × Int} (h : hasB L H p = true) : InW L H p := by
  unfold hasB at h
  simp only [Bool.and_eq_true, decide_eq_true_eq] at h
  exact ⟨h.1.1.1, h.1.1.2, h.1.2, h.2⟩
/-- The cells that Cells answers. -/
noncomputable def cellsL (ps : List (Int × Int)) : List (Int × Int) := if chE ps = 0 then spL (awL ps).1 (awL ps).2 else []
theorem cells_any (ps : List (Int × Int)) (A : Option Addr) (cap : Nat) (hn : ps.length ≤ maxLen) (w : World) (hr : Pts w w.heap.size A ps) :
    Calls Try.prog 17 #[.slice A ps.length cap] w fun e w' => ∃ v, e = .returned (.tuple #[v, .int .i64 (chE ps)]) ∧ RowI w 24 2 encP v (cellsL ps) w' := by
  by_cases hc : chE ps = 0
  · have e : cellsL ps = spL (awL ps).1 (awL ps).2 := if_pos hc
    rw [e, hc]
    exact cells_good ps A cap hc w hr
  · have e : cellsL ps = [] := if_neg hc
    rw [e]
    exact (cells_bad ps A cap hn hc w hr).mono fun e w' ⟨h1, h2⟩ => ⟨_, h1, RowI.nil h2⟩
theorem span_len (L H : Int × Int) : (spanL L H).length ≤ 1000 := by
  by_cases he : wnE L H = 0
  · rw [spanL_good he]
    have hg := (wnE_zero.1 he).1
    have := spL_len_le (gd_iff.1 (two_good hg).1) (gd_iff.1 (two_good hg).2)
    omega
  · rw [spanL_bad he]; simp
theorem cells_len (ps : List (Int × Int)) : (cellsL ps).length ≤ 1000 := by
  by_cases hc : chE ps = 0
  · have e : cellsL ps = spL (awL ps).1 (awL ps).2 := if_pos hc
    rw [e, ← spanL_good (aw_ok hc)]
    exact span_len _ _
  · have e : cellsL ps = [] := if_neg hc
    rw [e]; simp
set_option maxRecDepth 100000 in
set_option maxHeartbeats 4000000 in
theorem walk_bad (L H p : Int × Int) (ps : List (Int × Int)) (A : Option Addr) (cap : Nat) (hp : gd p = false) (w : World) :
    Calls Try.prog 6 #[.agg #[.int .i64 L.1, .int .i64 L.2, .int .i64 H.1, .int .i64 H.2], .slice A ps.length cap, .agg #[.int .i64 p.1, .int .i64 p.2]] w fun e w' => e = .returned (.bool true) ∧ Below w.heap.size w w' := by
  have hat := fun W => At_any p W
  rw [(at_bad hp).1, (at_bad hp).2] at hat
  have hgo := fun W t => ref_good_one p 1 W t
  rw [show gdL [p] = false by simp [gdL, hp]] at hgo
  have HAT := Lib.hid hat
  have HGO := Lib.hid hgo
  clear hat hgo hp
  have HQ := ((Hold.refl w).new #[.int .i64 L.1, .int .i64 L.2, .int .i64 H.1, .int .i64 H.2] 34).new' #[.int .i64 p.1, .int .i64 p.2] 23 (n := w.heap.size + 1) (by simp)
  go_enter Try.func6, Try.ntmps6
  go_upto_region 1 with (fail)
  generalize (World.alloc _ _) = W1 at HQ ⊢
  generalize w.heap.size + 1 = g5 at HQ ⊢
  obtain ⟨g3, hg3⟩ : ∃ g, w.heap.size = g := ⟨_, rfl⟩
  have HQX := Lib.hid HQ.1
  rw [hg3] at HQ ⊢
  have HG3 := Lib.hid hg3
  clear hg3
  obtain ⟨d0, d1⟩ := HQ.pt (.head _)
  go_upto_region 2 with (go_at_call 9; go_must ((with_reducible refine (HAT.out _).mono ?_); rintro e w' ⟨rfl, hB⟩; have HQ1 := (HQ.on hB).new #[.int .i64 0, .int .i64 0] 24; clear hB d0 d1 HQ))
  generalize (World.alloc _ _) = W2 at HQ1 ⊢
  generalize (World.heap _).size = g7 at HQ1 ⊢
  go_wp2_with fail
  go_at_call 11
  refine (grid_answers _).mono ?_
  rintro e w' ⟨rfl, hB⟩
  have HQ2 := HQ1.on hB
  clear hB HQ1
  go_wp2_with fail
  go_at_call 11
  refine (grid_answers _).mono ?_
  rintro e w' ⟨rfl, hB⟩
  have HQ3 := HQ2.on hB
  clear hB HQ2
  obtain ⟨d0, d1⟩ := HQ3.tail.pt (.head _)
  go_wp2_with fail
  go_at_call 10
  refine (HGO.out _ _).mono ?_
  rintro e w' ⟨rfl, hB⟩
  have HB := Lib.hid ((HQ3.alloc _).on (hB.mono (by simp only [World.size_alloc]; omega))).1
  clear hB d0 d1 HQ3
  go_wp2
  go_ret
  exact ⟨rfl, HG3.out ▸ HB.out⟩
set_option maxRecDepth 100000 in
set_option maxHeartbeats 20000000 in
theorem walk_good (L H p : Int × Int) (ps : List (Int × Int)) (A : Option Addr) (cap : Nat) (hn : ps.length * 16 ≤ 140737488355328) (hnil : NilOk A cap) (hp : gd p = true) (w : World) (hr : Pts w w.heap.size A ps) :
    Calls Try.prog 6 #[.agg #[.int .i64 L.1, .int .i64 L.2, .int .i64 H.1, .int .i64 H.2], .slice A ps.length cap, .agg #[.int .i64 p.1, .int .i64 p.2]] w fun e w' => e = .returned (.bool true) ∧ Below w.heap.size w w' := by
  have hat := fun W => At_any p W
  rw [(at_good hp).1, (at_good hp).2] at hat
  have HAT := Lib.hid hat
  have HSA := Lib.hid (fun W => span_any L H W)
  have HCB := Lib.hid (fun B c W (h : Pts W W.heap.size B ps) => cells_any ps B c (by unfold maxLen; omega) W h)
  have HHA := Lib.hid (fun W => ref_has L H p W)
  have HSD : Hid (chE ps = 0 → ∀ W, Pts W W.heap.size A ps → Calls Try.prog 22 #[.slice A ps.length cap, .agg #[.int .i64 p.1, .int .i64 p.2]] W fun e w' => e = .returned (.int .i64 (side ps p)) ∧ Below W.heap.size W w') :=
    fun hc W h => ref_side ps A cap p (by unfold maxLen; omega) (arE_zero.1 (chE_zero.1 hc).1).2 (gd_iff.1 hp) W h
  have HFA : Hid (wnE L H = 0 → hasB L H p = true → cdP p ∈ spanL L H) := fun he hh => by
    rw [spanL_good he]
    exact mem_spL_of (has_in hh)
  have HGB : Hid (chE ps = 0 → 0 ≤ side ps p → cdP p ∈ cellsL ps) := fun hc hs => by
    have e : cellsL ps = spL (awL ps).1 (awL ps).2 := if_pos hc
    rw [e]
    exact mem_spL_of (side_in (aw_len hc).1 hs)
  have HLA := Lib.hid (span_len L H)
  have HLB := Lib.hid (cells_len ps)
  have HX := Lib.hid (fun W (hb : Below w.heap.size w W) => hr.on hb)
  have HN := Lib.hid hnil
  clear hat hp hr hnil
  generalize wnE L H = f at *
  generalize chE ps = g at *
  generalize spanL L H = la at *
  generalize cellsL ps = lb at *
  generalize hasB L H p = hh at *
  generalize side ps p = s at *
  generalize cdP p = c at *
  have HQ := ((Hold.refl w).new #[.int .i64 L.1, .int .i64 L.2, .int .i64 H.1, .int .i64 H.2] 34).new' #[.int .i64 p.1, .int .i64 p.2] 23 (n := w.heap.size + 1) (by simp)
  go_enter Try.func6, Try.ntmps6
  go_upto_region 1 with (fail)
  generalize (World.alloc _ _) = W1 at HQ ⊢
  generalize w.heap.size + 1 = g5 at HQ ⊢
  obtain ⟨g3, hg3⟩ : ∃ g, w.heap.size = g := ⟨_, rfl⟩
  have HQX := Lib.hid HQ.1
  rw [hg3] at HQ ⊢
  have HG3 := Lib.hid hg3
  clear hg3
  obtain ⟨d0, d1⟩ := HQ.pt (.head _)
  go_upto_region 2 with (go_at_call 9; go_must ((with_reducible refine (HAT.out _).mono ?_); rintro e w' ⟨rfl, hB⟩; have HQ1 := (HQ.on hB).new #[.int .i64 c.1, .int .i64 c.2] 24; clear hB d0 d1 HQ))
  generalize (World.alloc _ _) = W2 at HQ1 ⊢
  generalize (World.heap _).size = g7 at HQ1 ⊢
  rw [← HG3.out] at HQ1
  go_wp2_with fail
  go_at_call 11
  refine (grid_answers _).mono ?_
  rintro e w' ⟨rfl, hB⟩
  have HQ2 := HQ1.on hB
  clear hB HQ1
  rw [HG3.out] at HQ2
  obtain ⟨c0, c1, c2, c3⟩ := HQ2.win (.tail _ (.tail _ (.head _)))
  go_wp2_with fail
  go_at_call 13
  refine (HSA.out _).mono ?_
  rintro e w3 ⟨v, rfl, HV⟩
  obtain ⟨A2, c2', rfl, hi, -⟩ := HV.items
  have HQ3 := HQ2.on HV.1
  have HI3 := Lib.hid hi
  clear HV hi c0 c1 c2 c3 HQ2
  have HM3 := Lib.hid (Row.made w3 23 rfl)
  have HP3 := Lib.hid (HX.out _ (HQ3.on HM3.out.1).1)
  go_wp2_with (at_builtin; refine append_pts _ Try.underlying42 HM3.out ps A cap HP3.out HN.out (by simpa using hn) rfl _ _ rfl rfl rfl ?_; rintro v4 w4 HR4; rw [List.nil_append] at HR4; obtain ⟨A4, c4, rfl, hp4, -⟩ := HR4.nilOk)
  have HQ4 := HQ3.on HR4.1
  have HI4 := Lib.hid (HI3.out.on HR4.1)
  have HP4 := Lib.hid hp4
  clear HR4 hp4 HQ3 HM3 HP3
  go_at_call 17
  refine (HCB.out _ _ _ HP4.out).mono ?_
  rintro e w5 ⟨v, rfl, HV⟩
  obtain ⟨A5, c5, rfl, hi, -⟩ := HV.items
  have HQ5 := HQ4.on HV.1
  have HI5 := Lib.hid (HI4.out.on HV.1)
  have HJ5 := Lib.hid hi
  clear HV hi HQ4
  by_cases hf : f = 0
  · subst hf
    obtain ⟨c0, c1, c2, c3⟩ := HQ5.win (.tail _ (.tail _ (.head _)))
    obtain ⟨d0, d1⟩ := HQ5.tail.pt (.head _)
    go_wp2_with fail
    go_at_call 21
    refine (HHA.out _).mono ?_
    rintro e w6 ⟨rfl, hB⟩
    have HQ6 := HQ5.on hB
    have HI6 := Lib.hid (HI5.out.on hB)
    have HJ6 := Lib.hid (HJ5.out.on hB)
    clear hB c0 c1 c2 c3 d0 d1 HQ5
    cases hh
    · have HQT := HQ6
      have HJT := HJ6
      clear HQ6 HJ6
      go_upto_region 9 with (fail)
      by_cases hg : g = 0
      · subst hg
        obtain ⟨d0, d1⟩ := HQT.tail.pt (.head _)
        have hsd := HSD.out (by first | trivial | rfl)
        go_wp2_with fail
        go_at_call 22
        refine (hsd _ (HX.out _ HQT.1)).mono ?_
        rintro e w9 ⟨rfl, hB⟩
        have HQ9 := HQT.on hB
        have HJ9 := Lib.hid (HJT.out.on hB)
        clear hB hsd d0 d1 HQT
        by_cases hs : s < 0
        · have HB := Lib.hid HQ9.1
          clear HQ9
          go_wp2
          go_ret
          exact ⟨rfl, HB.out⟩
        · have hd : decide (s < 0) = false := decide_eq_false hs
          have HCM := Lib.hid (decide_eq_true (HGB.out (by first | trivial | rfl) (by omega)))
          go_wp2_with fail
          go_at_call 20
          refine (has_any lb A5 c5 c g7 HLB.out _ HJ9.out (HQ9.2.1 _ (.head _)).1).mono ?_
          rintro e w10 ⟨rfl, hB⟩
          have HB := Lib.hid (HQ9.on hB).1
          rw [HCM.out]
          clear HQ9 hB
          go_wp2
          go_ret
          exact ⟨rfl, HB.out⟩
      · have e1 : (g == 0) = false := by simpa using hg
        have HB := Lib.hid HQT.1
        clear HQT
        go_wp2
        go_ret
        exact ⟨rfl, HB.out⟩
    · have HCA := Lib.hid (decide_eq_true (HFA.out (by first | trivial | rfl) (by first | trivial | rfl)))
      go_wp2_with fail
      go_at_call 20
      refine (has_any la A2 c2' c g7 HLA.out _ HI6.out (HQ6.2.1 _ (.head _)).1).mono ?_
      rintro e w7 ⟨rfl, hB⟩
      rw [HCA.out]
      have HQT := HQ6.on hB
      have HJT := Lib.hid (HJ6.out.on hB)
      clear hB HQ6
      go_upto_region 9 with (fail)
      by_cases hg : g = 0
      · subst hg
        obtain ⟨d0, d1⟩ := HQT.tail.pt (.head _)
        have hsd := HSD.out (by first | trivial | rfl)
        go_wp2_with fail
        go_at_call 22
        refine (hsd _ (HX.out _ HQT.1)).mono ?_
        rintro e w9 ⟨rfl, hB⟩
        have HQ9 := HQT.on hB
        have HJ9 := Lib.hid (HJT.out.on hB)
        clear hB hsd d0 d1 HQT
        by_cases hs : s < 0
        · have HB := Lib.hid HQ9.1
          clear HQ9
          go_wp2
          go_ret
          exact ⟨rfl, HB.out⟩
        · have hd : decide (s < 0) = false := decide_eq_false hs
          have HCM := Lib.hid (decide_eq_true (HGB.out (by first | trivial | rfl) (by omega)))
          go_wp2_with fail
          go_at_call 20
          refine (has_any lb A5 c5 c g7 HLB.out _ HJ9.out (HQ9.2.1 _ (.head _)).1).mono ?_
          rintro e w10 ⟨rfl, hB⟩
          have HB := Lib.hid (HQ9.on hB).1
          rw [HCM.out]
          clear HQ9 hB
          go_wp2
          go_ret
          exact ⟨rfl, HB.out⟩
      · have e1 : (g == 0) = false := by simpa using hg
        have HB := Lib.hid HQT.1
        clear HQT
        go_wp2
        go_ret
        exact ⟨rfl, HB.out⟩
  · have e0 : (f == 0) = false := by simpa using hf
    have HQT := HQ5
    have HJT := HJ5
    clear HQ5 HJ5
    go_upto_region 9 with (fail)
    by_cases hg : g = 0
    · subst hg
      obtain ⟨d0, d1⟩ := HQT.tail.pt (.head _)
      have hsd := HSD.out (by first | trivial | rfl)
      go_wp2_with fail
      go_at_call 22
      refine (hsd _ (HX.out _ HQT.1)).mono ?_
      rintro e w9 ⟨rfl, hB⟩
      have HQ9 := HQT.on hB
      have HJ9 := Lib.hid (HJT.out.on hB)
      clear hB hsd d0 d1 HQT
      by_cases hs : s < 0
      · have HB := Lib.hid HQ9.1
        clear HQ9
        go_wp2
        go_ret
        exact ⟨rfl, HB.out⟩
      · have hd : decide (s < 0) = false := decide_eq_false hs
        have HCM := Lib.hid (decide_eq_true (HGB.out (by first | trivial | rfl) (by omega)))
        go_wp2_with fail
        go_at_call 20
        refine (has_any lb A5 c5 c g7 HLB.out _ HJ9.out (HQ9.2.1 _ (.head _)).1).mono ?_
        rintro e w10 ⟨rfl, hB⟩
        have HB := Lib.hid (HQ9.on hB).1
        rw [HCM.out]
        clear HQ9 hB
        go_wp2
        go_ret
        exact ⟨rfl, HB.out⟩
    · have e1 : (g == 0) = false := by simpa using hg
      have HB := Lib.hid HQT.1
      clear HQT
      go_wp2
      go_ret
      exact ⟨rfl, HB.out⟩
theorem law_walk (L H p : Int × Int) (ps : List (Int × Int)) (A : Option Addr) (cap : Nat) (hn : ps.length * 16 ≤ 140737488355328) (hnil : NilOk A cap) (w : World) (hr : Pts w w.heap.size A ps) :
    Calls Try.prog 6 #[.agg #[.int .i64 L.1, .int .i64 L.2, .int .i64 H.1, .int .i64 H.2], .slice A ps.length cap, .agg #[.int .i64 p.1, .int .i64 p.2]] w fun e w' => e = .returned (.bool true) ∧ Below w.heap.size w w' := by
  cases hp : gd p
  · exact walk_bad L H p ps A cap hp w
  · exact walk_good L H p ps A cap hn hnil hp w hr
end Go.Proofs.Ytfihddpidaidiaa.gridHas
