/- The law GridCells: the cells of a ring. -/
import Derived.Test.YtfihddpidaidiaaGridR
import Derived.Test.YtfihddpidaidiaaGridC
import Derived.Test.YtfihddpidaidiaaGridV
namespace Go.Proofs.Ytfihddpidaidiaa.gridCells
open Go.RowKit

set_option maxRecDepth 100000 in
set_option maxHeartbeats 4000000 in
theorem walk_bad (ps : List (Int × Int)) (A : Option Addr) (cap : Nat) (hn : ps.length * 16 ≤ 140737488355328) (hnil : NilOk A cap) (hc : chE ps ≠ 0) (w : World) (hr : Pts w w.heap.size A ps) :
    Calls Try.prog 5 #[.slice A ps.length cap] w fun e w' => e = .returned (.bool true) ∧ Below w.heap.size w w' := by
  have HCB := Lib.hid (fun B c W (h : Pts W W.heap.size B ps) => cells_bad ps B c (by unfold maxLen; omega) hc W h)
  have HRC := Lib.hid (fun W (h : Pts W W.heap.size A ps) => ref_check ps A cap (by unfold maxLen; omega) W h)
  have e0 : (chE ps == 0) = false := by simpa using hc
  clear hc
  generalize chE ps = x at *
  have HR := Lib.hid (Row.made w 23 rfl)
  have HA := Lib.hid (hr.on HR.out.1)
  have HN := Lib.hid hnil
  have HX := Lib.hid (fun W (hb : Below w.heap.size w W) => hr.on hb)
  clear hr hnil
  go_enter Try.func5, Try.ntmps5
  go_wp2_with (at_builtin; refine append_pts _ Try.underlying42 HR.out ps A cap HA.out HN.out (by simpa using hn) rfl _ _ rfl rfl rfl ?_; rintro v1 w1 HR1; rw [List.nil_append] at HR1; obtain ⟨A1, c1, rfl, hp1, -⟩ := HR1.nilOk)
  have HB1 := Lib.hid HR1.1
  have HP1 := Lib.hid hp1
  clear HR1 hp1
  go_at_call 17
  refine (HCB.out _ _ _ HP1.out).mono ?_
  rintro e w2 ⟨rfl, hB⟩
  have HB2 := Lib.hid (HB1.out.trans (hB.mono HB1.out.size))
  clear hB
  go_wp2_with fail
  go_at_call 18
  refine (HRC.out _ (HX.out _ HB2.out)).mono ?_
  rintro e w3 ⟨rfl, hB⟩
  have HB3 := Lib.hid (HB2.out.trans (hB.mono HB2.out.size))
  clear hB
  go_wp2_with fail
  go_at_call 11
  refine (grid_answers _).mono ?_
  rintro e w4 ⟨rfl, hB⟩
  have HB4 := Lib.hid (HB3.out.trans (hB.mono HB3.out.size))
  clear hB
  go_wp2
  go_ret
  exact ⟨rfl, HB4.out⟩
set_option maxRecDepth 100000 in
set_option maxHeartbeats 4000000 in
theorem walk_good (ps : List (Int × Int)) (A : Option Addr) (cap : Nat) (hn : ps.length * 16 ≤ 140737488355328) (hnil : NilOk A cap) (hc : chE ps = 0) (w : World) (hr : Pts w w.heap.size A ps) :
    Calls Try.prog 5 #[.slice A ps.length cap] w fun e w' => e = .returned (.bool true) ∧ Below w.heap.size w w' := by
  have hl := aw_len hc
  have HCG := Lib.hid (fun B c W (h : Pts W W.heap.size B ps) => cells_good ps B c hc W h)
  have hrc := fun W (h : Pts W W.heap.size A ps) => ref_check ps A cap (by unfold maxLen; omega) W h
  rw [hc] at hrc
  have HRC := Lib.hid hrc
  have HRA := Lib.hid (fun W (h : Pts W W.heap.size A ps) => ref_around ps A cap hl.1 hl.2 W h)
  have HRS := Lib.hid (fun W => ref_span (awL ps).1 (awL ps).2 (aw_ok hc) W)
  have HLN : Hid ((spL (awL ps).1 (awL ps).2).length ≤ 1000) := by
    have hg := (wnE_zero.1 (aw_ok hc)).1
    have := spL_len_le (gd_iff.1 (two_good hg).1) (gd_iff.1 (two_good hg).2)
    unfold Hid
    omega
  clear hl hrc hc
  generalize awL ps = z at *
  obtain ⟨L, H⟩ := z
  dsimp only at *
  generalize spL L H = l at *
  have HR := Lib.hid (Row.made w 23 rfl)
  have HA := Lib.hid (hr.on HR.out.1)
  have HN := Lib.hid hnil
  have HX := Lib.hid (fun W (hb : Below w.heap.size w W) => hr.on hb)
  clear hr hnil
  go_enter Try.func5, Try.ntmps5
  go_wp2_with (at_builtin; refine append_pts _ Try.underlying42 HR.out ps A cap HA.out HN.out (by simpa using hn) rfl _ _ rfl rfl rfl ?_; rintro v1 w1 HR1; rw [List.nil_append] at HR1; obtain ⟨A1, c1, rfl, hp1, -⟩ := HR1.nilOk)
  have HB1 := Lib.hid HR1.1
  have HP1 := Lib.hid hp1
  clear HR1 hp1
  go_at_call 17
  refine (HCG.out _ _ _ HP1.out).mono ?_
  rintro e w2 ⟨v, rfl, HV⟩
  obtain ⟨A2, c2, rfl, hi, -⟩ := HV.items
  have HB2 := Lib.hid (HB1.out.trans (HV.1.mono HB1.out.size))
  have HI2 := Lib.hid hi
  clear HV hi
  go_wp2_with fail
  go_at_call 18
  refine (HRC.out _ (HX.out _ HB2.out)).mono ?_
  rintro e w3 ⟨rfl, hB⟩
  have HB3 := Lib.hid (HB2.out.trans (hB.mono HB2.out.size))
  have HI3 := Lib.hid (HI2.out.on hB)
  clear hB
  go_wp2_with fail
  go_at_call 11
  refine (grid_answers _).mono ?_
  rintro e w4 ⟨rfl, hB⟩
  have HB4 := Lib.hid (HB3.out.trans (hB.mono HB3.out.size))
  have HI4 := Lib.hid (HI3.out.on hB)
  clear hB
  go_wp2_with fail
  go_at_call 19
  refine (HRA.out _ (HX.out _ HB4.out)).mono ?_
  rintro e w5 ⟨rfl, hB⟩
  have HB5 := Lib.hid (HB4.out.trans (hB.mono HB4.out.size))
  have HI5 := Lib.hid (HI4.out.on hB)
  clear hB
  go_wp2_with fail
  go_at_call 16
  refine (HRS.out _).mono ?_
  rintro e w6 ⟨v, rfl, HV⟩
  obtain ⟨A6, c6, rfl, hi, -⟩ := HV.items
  have HB6 := Lib.hid (HB5.out.trans (HV.1.mono HB5.out.size))
  have HI6 := Lib.hid (HI5.out.on HV.1)
  have HJ6 := Lib.hid hi
  clear HV hi
  go_wp2_with fail
  go_at_call 15
  refine (same_any l A2 A6 c2 c6 HLN.out _ HI6.out HJ6.out).mono ?_
  rintro e w7 ⟨rfl, hB⟩
  have HB7 := Lib.hid (HB6.out.trans (hB.mono HB6.out.size))
  clear hB
  go_wp2
  go_ret
  exact ⟨rfl, HB7.out⟩
theorem law_walk (ps : List (Int × Int)) (A : Option Addr) (cap : Nat) (hn : ps.length * 16 ≤ 140737488355328) (hnil : NilOk A cap) (w : World) (hr : Pts w w.heap.size A ps) :
    Calls Try.prog 5 #[.slice A ps.length cap] w fun e w' => e = .returned (.bool true) ∧ Below w.heap.size w w' := by
  by_cases hc : chE ps = 0
  · exact walk_good ps A cap hn hnil hc w hr
  · exact walk_bad ps A cap hn hnil hc w hr
end Go.Proofs.Ytfihddpidaidiaa.gridCells
