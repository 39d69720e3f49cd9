/- The program's Cells of a ring. -/
import Derived.Test.YtfihddpidaidiaaGridW
namespace Go.Proofs.Ytfihddpidaidiaa
open Go.RowKit
theorem aw_len {ps : List (Int × Int)} (hc : chE ps = 0) : 0 < ps.length ∧ ps.length ≤ 1000 := by
  obtain ⟨ha, hs⟩ := chE_zero.1 hc
  have := (arE_zero.1 ha).1
  have := hs.1
  omega
theorem aw_ok {ps : List (Int × Int)} (hc : chE ps = 0) : wnE (awL ps).1 (awL ps).2 = 0 := by
  obtain ⟨ha, hs⟩ := chE_zero.1 hc
  have h0 := (aw_len hc).1
  obtain ⟨h1, h2⟩ := awT_gd (fun i => nx_gd (arE_zero.1 ha).2 h0 i) ps.length
  refine wnE_zero.2 ⟨?_, awT_le ps ps.length⟩
  simp only [gdL, List.all_cons, List.all_nil, Bool.and_true, Bool.and_eq_true]
  exact ⟨gd_iff.2 h1, gd_iff.2 h2⟩
set_option maxRecDepth 100000 in
set_option maxHeartbeats 4000000 in
theorem cells_bad (ps : List (Int × Int)) (A : Option Addr) (cap : Nat) (hn : ps.length ≤ maxLen) (hc : chE ps ≠ 0) (w : World) (hr : Pts w w.heap.size A ps) :
    Calls Try.prog 17 #[.slice A ps.length cap] w fun e w' => e = .returned (.tuple #[.slice none 0 0, .int .i64 (chE ps)]) ∧ Below w.heap.size w w' := by
  have HC := Lib.hid (Check_any ps A cap hn w hr)
  have e0 : (chE ps == 0) = false := by simpa using hc
  clear hc hr
  generalize chE ps = x at *
  go_enter Try.func17, Try.ntmps17
  go_wp2_with fail
  go_at_call 27
  refine HC.out.mono ?_
  rintro e w' ⟨rfl, hB⟩
  have HB := Lib.hid hB
  clear hB
  go_wp2
  refine bodyPost_ret (v := .tuple #[.slice none 0 0, .int .i64 x]) ?_ rfl ⟨rfl, HB.out⟩
  simp [results, Try.results17, go_sem]
set_option maxRecDepth 100000 in
set_option maxHeartbeats 4000000 in
theorem cells_good (ps : List (Int × Int)) (A : Option Addr) (cap : Nat) (hc : chE ps = 0) (w : World) (hr : Pts w w.heap.size A ps) :
    Calls Try.prog 17 #[.slice A ps.length cap] w fun e w' => ∃ v, e = .returned (.tuple #[v, .int .i64 0]) ∧ RowI w 24 2 encP v (spL (awL ps).1 (awL ps).2) w' := by
  have hl := aw_len hc
  have h := Check_any ps A cap (by unfold maxLen; omega) w hr
  rw [hc] at h
  have HC := Lib.hid h
  have HA := Lib.hid (fun W (hb : Below w.heap.size w W) => around_any ps A cap hl.1 hl.2 W (hr.on hb))
  have HS := Lib.hid (fun W => span_good (awL ps).1 (awL ps).2 (aw_ok hc) W)
  clear hl h hc hr
  generalize awL ps = z at *
  obtain ⟨L, H⟩ := z
  dsimp only at *
  generalize spL L H = l at *
  go_enter Try.func17, Try.ntmps17
  go_wp2_with fail
  go_at_call 27
  refine HC.out.mono ?_
  rintro e w1 ⟨rfl, hB⟩
  have HB1 := Lib.hid hB
  clear hB
  go_wp2_with fail
  go_at_call 28
  refine (HA.out _ HB1.out).mono ?_
  rintro e w2 ⟨rfl, hB⟩
  have HB2 := Lib.hid (HB1.out.trans (hB.mono HB1.out.size))
  clear hB
  go_wp2_with fail
  go_at_call 13
  refine (HS.out _).mono ?_
  rintro e w3 ⟨v, rfl, HR⟩
  have HR3 := Lib.hid HR
  clear HR
  go_wp2
  refine bodyPost_ret (v := .tuple #[v, .int .i64 0]) ?_ rfl ⟨v, rfl, RowI.based HR3.out HB2.out⟩
  simp [results, Try.results17, go_sem]
end Go.Proofs.Ytfihddpidaidiaa
