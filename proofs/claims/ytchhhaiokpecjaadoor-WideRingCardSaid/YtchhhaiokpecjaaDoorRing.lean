/- The law WideRing: sums of 128-bit integers turned round, undone, and with products. -/
import Derived.Test.YtchhhaiokpecjaaDoorFrame
import Derived.Test.YtchhhaiokpecjaaDoorHas
import Derived.Deep.DeepCutAuto
namespace Go.Proofs.YtchhhaiokpecjaaDoor.wideRing
open Go.RowKit
variable {x x' y y' : Int}

theorem pLo_comm (l l' : Int) : pLo l l' = pLo l' l := by unfold pLo asum; rw [Int.add_comm l l']
theorem pHi_comm (h l h' l' : Int) : pHi h l h' l' = pHi h' l' h l := by unfold pHi asum acar; rw [Int.add_comm l l', Int.add_comm (uw h) (uw h')]
theorem pFit_comm (h l h' l' : Int) : pFit h l h' l' = pFit h' l' h l := by
  unfold pFit
  rw [pHi_comm h l h' l', Bool.beq_comm (a := ng h) (b := ng h')]
  cases ng h <;> cases ng h' <;> cases ng (pHi h' l' h l) <;> rfl
theorem a_comm (h l h' l' : Int) : aH h l h' l' = aH h' l' h l ∧ aL h l h' l' = aL h' l' h l ∧ aE h l h' l' = aE h' l' h l := by
  unfold aH aL aE
  rw [pFit_comm h l h' l', pHi_comm h l h' l', pLo_comm l l']
  exact ⟨rfl, rfl, rfl⟩
theorem add_wf (h l h' l' : Int) : Wf (aH h l h' l') (aL h l h' l') := by
  unfold aH aL
  split
  · exact plus_wf
  · unfold Wf; omega

/-- The sum, less one, is the other. -/
theorem back (vx : Wf x x') (vy : Wf y y') (hf : pFit x x' y y' = true) : bH (aH x x' y y') (aL x x' y y') y y' = x ∧ bL (aH x x' y y') (aL x x' y y') y y' = x' ∧ bE (aH x x' y y') (aL x x' y y') y y' = 0 := by
  have hr := plus_fit vx vy
  rw [hf] at hr
  have hr := of_decide_eq_true hr.symm
  have hv := plus_val vx vy hr
  have hs : val (pHi x x' y y') (pLo x' y') - val y y' = val x x' := by rw [hv]; omega
  have hi : InR (val (pHi x x' y y') (pLo x' y') - val y y') := by rw [hs]; exact wf_val vx
  have hm := minus_fit plus_wf vy (h := pHi x x' y y') (l := pLo x' y')
  rw [decide_eq_true hi] at hm
  have hd := minus_val plus_wf vy hi
  rw [hs] at hd
  obtain ⟨e1, e2⟩ := val_inj minus_wf vx hd
  unfold aH aL
  rw [hf, if_pos rfl, if_pos rfl]
  unfold bH bL bE
  rw [hm, if_pos rfl, if_pos rfl, if_pos rfl]
  exact ⟨e1, e2, rfl⟩

/-- Products go with a sum that does not go round. -/
theorem dist (a b c : Int) (ha1 : -9223372036854775808 ≤ a) (ha2 : a ≤ 9223372036854775807) (hb1 : -9223372036854775808 ≤ b) (hb2 : b ≤ 9223372036854775807) (hc1 : -9223372036854775808 ≤ c) (hc2 : c ≤ 9223372036854775807)
    (hf : pFit (hiOf (a * b)) (loOf (a * b)) (hiOf (a * c)) (loOf (a * c)) = true) (hn : (decide (b < sw (b + c)) == decide (0 < c)) = true) :
    hiOf (a * sw (b + c)) = aH (hiOf (a * b)) (loOf (a * b)) (hiOf (a * c)) (loOf (a * c)) ∧ loOf (a * sw (b + c)) = aL (hiOf (a * b)) (loOf (a * b)) (hiOf (a * c)) (loOf (a * c)) := by
  have e : sw (b + c) = b + c := by
    rw [beq_iff_eq, decide_eq_decide] at hn
    unfold sw at *
    omega
  have w1 := wf_of (mul_inR a b ha1 ha2 hb1 hb2)
  have w2 := wf_of (mul_inR a c ha1 ha2 hc1 hc2)
  have hr := plus_fit w1 w2
  rw [hf] at hr
  have hr := of_decide_eq_true hr.symm
  have hv := plus_val w1 w2 hr
  rw [val_of, val_of, ← Int.mul_add] at hv
  rw [val_of, val_of, ← Int.mul_add] at hr
  rw [e]
  unfold aH aL
  rw [hf, if_pos rfl, if_pos rfl]
  have w3 := wf_of hr
  have h3 := val_of (a * (b + c))
  obtain ⟨e1, e2⟩ := val_inj plus_wf w3 (hv.trans h3.symm)
  exact ⟨e1.symm, e2.symm⟩

set_option maxRecDepth 100000 in
set_option maxHeartbeats 2000000 in
theorem law_walk (a b c : Int) (ha1 : -9223372036854775808 ≤ a) (ha2 : a ≤ 9223372036854775807) (hb1 : -9223372036854775808 ≤ b) (hb2 : b ≤ 9223372036854775807) (hc1 : -9223372036854775808 ≤ c) (hc2 : c ≤ 9223372036854775807)
    (vx : Wf x x') (vy : Wf y y') (w : World) (htab : Lib.TabBelow Tryd.prog w.heap.size w "internal/strconv.uint64pow10" .u64 Lib.pow10Tab) :
    Calls Tryd.prog 7 #[.int .i64 a, .int .i64 b, .int .i64 c, .agg #[.int .i64 x, .int .u64 x'], .agg #[.int .i64 y, .int .u64 y']] w fun e w' => e = .returned (.bool true) ∧ Below w.heap.size w w' := by
  have M1 := Lib.hid (fun W => mul_any a b W ha1 ha2 hb1 hb2)
  have M2 := Lib.hid (fun W => mul_any a c W ha1 ha2 hc1 hc2)
  have hba := fun W => mul_any b a W hb1 hb2 ha1 ha2
  rw [Int.mul_comm b a] at hba
  have M3 := Lib.hid hba
  have A1 := Lib.hid (fun W => add_any (hiOf (a * b)) (loOf (a * b)) (hiOf (a * c)) (loOf (a * c)) (wf_of (mul_inR a b ha1 ha2 hb1 hb2)) (wf_of (mul_inR a c ha1 ha2 hc1 hc2)) W)
  have A2 := Lib.hid (fun W => add_any x x' y y' vx vy W)
  have hyx := fun W => add_any y y' x x' vy vx W
  rw [(a_comm y y' x x').1, (a_comm y y' x x').2.1, (a_comm y y' x x').2.2] at hyx
  have A3 := Lib.hid hyx
  have S1 := Lib.hid (fun W => sub_any (aH x x' y y') (aL x x' y y') y y' (add_wf x x' y y') vy W)
  have D1 := Lib.hid (fun hf hn => dist a b c ha1 ha2 hb1 hb2 hc1 hc2 hf hn)
  have hsw : -9223372036854775808 ≤ sw (b + c) ∧ sw (b + c) ≤ 9223372036854775807 := by unfold sw; omega
  have M4 := Lib.hid (fun W => mul_any a (sw (b + c)) W ha1 ha2 hsw.1 hsw.2)
  have T := Lib.hid htab
  have B1 := Lib.hid (fun hf => back vx vy hf)
  clear hba hyx hsw ha1 ha2 hb1 hb2 hc1 hc2 vx vy htab
  go_enter Tryd.func7, Tryd.ntmps7
  go_upto_region 1 with (fail)
  have HS := ((Has.refl w).new x x').new' y y' (n := w.heap.size + 1) (by simp)
  generalize (((w.alloc _).alloc _)) = W at HS ⊢
  generalize w.heap.size + 1 = g9 at HS ⊢
  go_wp2_with fail
  go_at_call 13
  refine (M1.out _).mono ?_
  rintro e w1 ⟨rfl, hB⟩
  replace HS := HS.on hB
  clear hB
  go_wp2_with fail
  go_at_call 13
  refine (M2.out _).mono ?_
  rintro e w2 ⟨rfl, hB⟩
  replace HS := HS.on hB
  clear hB M2
  go_wp2_with fail
  go_at_call 15
  refine (A1.out _).mono ?_
  rintro e w3 ⟨rfl, hB⟩
  replace HS := (HS.on hB).new (aH (hiOf (a * b)) (loOf (a * b)) (hiOf (a * c)) (loOf (a * c))) (aL (hiOf (a * b)) (loOf (a * b)) (hiOf (a * c)) (loOf (a * c)))
  clear hB A1
  obtain ⟨f1, f2, f3, f4, f5, f6⟩ := HS.cells3
  go_wp2_with fail
  clear f1 f2 f3 f4 f5 f6
  generalize (World.alloc w3 _) = W3 at HS ⊢
  generalize w3.heap.size = g11 at HS ⊢
  go_at_call 15
  refine (A2.out _).mono ?_
  rintro e w4 ⟨rfl, hB⟩
  replace HS := (HS.on hB).new (aH x x' y y') (aL x x' y y')
  clear hB A2
  obtain ⟨f1, f2, f3, f4, f5, f6, f7, f8⟩ := HS.cells4
  go_wp2_with fail
  clear f1 f2 f3 f4 f5 f6 f7 f8
  generalize (World.alloc w4 _) = W4 at HS ⊢
  generalize w4.heap.size = g13 at HS ⊢
  go_at_call 15
  refine (A3.out _).mono ?_
  rintro e w5 ⟨rfl, hB⟩
  replace HS := (HS.on hB).new (aH x x' y y') (aL x x' y y')
  clear hB A3
  go_upto_region 4 with (fail)
  generalize (World.alloc w5 _) = W5 at HS ⊢
  generalize w5.heap.size = g15 at HS ⊢
  generalize hP : aH (hiOf (a * b)) (loOf (a * b)) (hiOf (a * c)) (loOf (a * c)) = P at HS ⊢
  generalize hP' : aL (hiOf (a * b)) (loOf (a * b)) (hiOf (a * c)) (loOf (a * c)) = P' at HS ⊢
  have HP := Lib.hid hP
  have HP' := Lib.hid hP'
  clear hP hP'
  go_cut [62] (fun s62 wx => s62 = .bool false ∧ Has w [(g15, aH x x' y y', aL x x' y y'), (g13, aH x x' y y', aL x x' y y'), (g11, P, P'), (g9, y, y'), (w.heap.size, x, x')] wx)
  case first =>
    go_wp2_with fail
    go_at_call 10
    refine (answers_any _ (HS.tab T.out)).mono ?_
    rintro e w6 ⟨rfl, hB⟩
    replace HS := HS.on hB
    clear hB
    obtain ⟨f1, f2, f3, f4, f5, f6, f7, f8⟩ := HS.cells4
    go_wp2_with fail
    go_at_call 13
    refine (M1.out _).mono ?_
    rintro e w7 ⟨rfl, hB⟩
    replace HS := HS.on hB
    clear hB f1 f2 f3 f4 f5 f6 f7 f8
    go_wp2_with fail
    go_at_call 13
    refine (M3.out _).mono ?_
    rintro e w8 ⟨rfl, hB⟩
    replace HS := HS.on hB
    clear hB
    go_wp2_with fail
    go_meet
    exact ⟨rfl, HS⟩
  case rest =>
    obtain ⟨rfl, HS⟩ := hcut
    clear M1 M3
    go_upto_if 64 with (fail)
    go_cut [] (fun wx => Has w [(g11, P, P')] wx)
    case first =>
      cases hf : pFit x x' y y'
      · have e1 : (aE x x' y y' == 0) = false := by unfold aE; rw [hf]; rfl
        go_wp2_with fail
        go_meet
        exact HS.sub (by simp)
      · have e1 : (aE x x' y y' == 0) = true := by unfold aE; rw [hf]; rfl
        obtain ⟨b1, b2, b3⟩ := B1.out hf
        have S2 := S1.out
        rw [b1, b2, b3] at S2
        have S3 := Lib.hid S2
        clear b1 b2 b3 S2
        obtain ⟨f1, f2, f3, f4, f5, f6, f7, f8⟩ := HS.cells4
        go_wp2_with fail
        go_at_call 17
        refine (S3.out _).mono ?_
        rintro e w6 ⟨rfl, hB⟩
        replace HS := (HS.on hB).new x x'
        clear hB f1 f2 f3 f4 f5 f6 f7 f8
        obtain ⟨f1, f2⟩ := HS.cells1
        obtain ⟨f3, f4⟩ := HS.look (g := w.heap.size) (a := x) (b := x') (by simp)
        go_wp2_with fail
        go_meet
        exact HS.sub (by simp)
    case rest =>
      go_wp2_with fail
      rw [wrap_sw]
      have HS := hcut
      clear hcut
      cases hf : pFit (hiOf (a * b)) (loOf (a * b)) (hiOf (a * c)) (loOf (a * c))
      · have e1 : (aE (hiOf (a * b)) (loOf (a * b)) (hiOf (a * c)) (loOf (a * c)) == 0) = false := by unfold aE; rw [hf]; rfl
        clear M4 D1
        generalize sw (b + c) = n at *
        go_quiet (fail)
        go_wp2
        go_ret
        exact ⟨rfl, below_drewN HS.1 _⟩
      · have e1 : (aE (hiOf (a * b)) (loOf (a * b)) (hiOf (a * c)) (loOf (a * c)) == 0) = true := by unfold aE; rw [hf]; rfl
        cases hn : (decide (b < sw (b + c)) == decide (0 < c))
        · clear M4 D1
          generalize sw (b + c) = n at *
          go_quiet (fail)
          go_wp2
          go_ret
          exact ⟨rfl, below_drewN HS.1 _⟩
        · obtain ⟨d1, d2⟩ := D1.out hf hn
          have M5 := M4.out
          rw [d1, d2, HP.out, HP'.out] at M5
          have M6 := Lib.hid M5
          clear d1 d2 M5 M4 D1 HP HP'
          generalize sw (b + c) = n at *
          go_region_held3 (fun W => W.cell? ⟨g11, 0, none⟩ = some (.int .i64 P) ∧ W.cell? ⟨g11, 1, none⟩ = some (.int .u64 P')) ((first | exact Has.cells1 (by assumption) | exact Has.cells1 (Has.drew (by assumption)))) (first
            | (go_at_call 13; refine (M6.out _).mono ?_; rintro e w' ⟨rfl, hB⟩; have HS' := Has.on (Has.drew HS) hB))
          go_wp2
          go_ret
          exact ⟨rfl, HS'.1⟩
end Go.Proofs.YtchhhaiokpecjaaDoor.wideRing
