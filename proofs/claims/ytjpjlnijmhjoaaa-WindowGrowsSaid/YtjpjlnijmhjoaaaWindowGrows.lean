/- The law WindowGrows: what a window has, cuts and meets, a greater one has, cuts and meets, too. -/
import Derived.Test.YtjpjlnijmhjoaaaWinAns
namespace Go.Proofs.Ytjpjlnijmhjoaaa.windowGrows
open Go.RowKit

theorem keep1 {w W : World} {L H L' H' p q : Int × Int} {m0 m1 m2 m3 : Int} {g5 g6 g7 g8 g11 : Nat} (h : Hold w [(g11, #[.int .i64 L'.1, .int .i64 L'.2, .int .i64 H'.1, .int .i64 H'.2], 25), (g8, #[.int .i64 q.1, .int .i64 q.2], 23), (g7, #[.int .i64 p.1, .int .i64 p.2], 23), (g6, #[.int .u8 m0, .int .u8 m1, .int .u8 m2, .int .u8 m3], 41), (g5, #[.int .i64 L.1, .int .i64 L.2, .int .i64 H.1, .int .i64 H.2], 25)] W) : W.cell? ⟨g5, 0, none⟩ = some (.int .i64 L.1) ∧ W.cell? ⟨g5, 1, none⟩ = some (.int .i64 L.2) ∧ W.cell? ⟨g5, 2, none⟩ = some (.int .i64 H.1) ∧ W.cell? ⟨g5, 3, none⟩ = some (.int .i64 H.2) := h.win (.tail _ (.tail _ (.tail _ (.tail _ (.head _)))))
theorem keep2 {w W : World} {L H L' H' p q : Int × Int} {m0 m1 m2 m3 : Int} {g5 g6 g7 g8 g11 : Nat} (h : Hold w [(g11, #[.int .i64 L'.1, .int .i64 L'.2, .int .i64 H'.1, .int .i64 H'.2], 25), (g8, #[.int .i64 q.1, .int .i64 q.2], 23), (g7, #[.int .i64 p.1, .int .i64 p.2], 23), (g6, #[.int .u8 m0, .int .u8 m1, .int .u8 m2, .int .u8 m3], 41), (g5, #[.int .i64 L.1, .int .i64 L.2, .int .i64 H.1, .int .i64 H.2], 25)] W) : W.cell? ⟨g11, 0, none⟩ = some (.int .i64 L'.1) ∧ W.cell? ⟨g11, 1, none⟩ = some (.int .i64 L'.2) ∧ W.cell? ⟨g11, 2, none⟩ = some (.int .i64 H'.1) ∧ W.cell? ⟨g11, 3, none⟩ = some (.int .i64 H'.2) := h.win (.head _)
theorem rd {w W : World} {L H L' H' p q : Int × Int} {m0 m1 m2 m3 : Int} {g5 g6 g7 g8 g11 : Nat} (h : Hold w [(g11, #[.int .i64 L'.1, .int .i64 L'.2, .int .i64 H'.1, .int .i64 H'.2], 25), (g8, #[.int .i64 q.1, .int .i64 q.2], 23), (g7, #[.int .i64 p.1, .int .i64 p.2], 23), (g6, #[.int .u8 m0, .int .u8 m1, .int .u8 m2, .int .u8 m3], 41), (g5, #[.int .i64 L.1, .int .i64 L.2, .int .i64 H.1, .int .i64 H.2], 25)] W) : (W.cell? ⟨g5, 0, none⟩ = some (.int .i64 L.1) ∧ W.cell? ⟨g5, 1, none⟩ = some (.int .i64 L.2) ∧ W.cell? ⟨g5, 2, none⟩ = some (.int .i64 H.1) ∧ W.cell? ⟨g5, 3, none⟩ = some (.int .i64 H.2)) ∧ (W.cell? ⟨g11, 0, none⟩ = some (.int .i64 L'.1) ∧ W.cell? ⟨g11, 1, none⟩ = some (.int .i64 L'.2) ∧ W.cell? ⟨g11, 2, none⟩ = some (.int .i64 H'.1) ∧ W.cell? ⟨g11, 3, none⟩ = some (.int .i64 H'.2)) ∧ W.cell? ⟨g7, 0, none⟩ = some (.int .i64 p.1) ∧ W.cell? ⟨g7, 1, none⟩ = some (.int .i64 p.2) ∧ W.cell? ⟨g8, 0, none⟩ = some (.int .i64 q.1) ∧ W.cell? ⟨g8, 1, none⟩ = some (.int .i64 q.2) :=
  ⟨keep1 h, keep2 h, (h.pt (.tail _ (.tail _ (.head _)))).1, (h.pt (.tail _ (.tail _ (.head _)))).2, (h.pt (.tail _ (.head _))).1, (h.pt (.tail _ (.head _))).2⟩
section
variable {L H L' H' p q : Int × Int} {ps : List (Int × Int)} (he : wnE L H = 0) (he' : wnE L' H' = 0) (hle : L'.1 ≤ L.1 ∧ L'.2 ≤ L.2 ∧ H.1 ≤ H'.1 ∧ H.2 ≤ H'.2)
include he he' hle
theorem has_more (h : haV L H p = true) : haV L' H' p = true := by
  unfold haV at *
  cases hg : gdL [p]
  · rw [frE_far he hg, if_neg (by decide)] at h; cases h
  · rw [frE_good he hg, if_pos rfl] at h
    rw [frE_good he' hg, if_pos rfl]
    obtain ⟨a1, a2, a3, a4⟩ := hasB_iff.1 h
    exact hasB_iff.2 ⟨by omega, by omega, by omega, by omega⟩
theorem cuts_more (h : cuV L H p q = true) : cuV L' H' p q = true := by
  unfold cuV at *
  cases hg : gdL [p, q]
  · rw [frE_far he hg, if_neg (by decide)] at h; cases h
  · rw [frE_good he hg, if_pos rfl] at h
    rw [frE_good he' hg, if_pos rfl]
    exact cutV_iff.2 (cut_more hle.1 hle.2.1 hle.2.2.1 hle.2.2.2 (cutV_iff.1 h))
theorem meets_more (h : meV L H ps = true) : meV L' H' ps = true := by
  by_cases hc : chE ps = 0
  · rw [(meE_good he hc).2] at h
    rw [(meE_good he' hc).2]
    exact metV_iff.2 (met_more (chE_zero.1 hc).2 (wnE_zero.1 he).2 hle.1 hle.2.1 hle.2.2.1 hle.2.2.2 (metV_iff.1 h))
  · rw [(meE_ill he hc).2] at h; cases h
end
set_option maxRecDepth 100000 in
set_option maxHeartbeats 8000000 in
theorem walk_bad (L H L' H' p q : Int × Int) (m0 m1 m2 m3 : Int) (b0 : 0 ≤ m0 ∧ m0 ≤ 255) (b1 : 0 ≤ m1 ∧ m1 ≤ 255) (b2 : 0 ≤ m2 ∧ m2 ≤ 255) (b3 : 0 ≤ m3 ∧ m3 ≤ 255)
    (q0 : IntKind.i64.wrap (L.1 - m0) = L'.1) (q1 : IntKind.i64.wrap (L.2 - m1) = L'.2) (q2 : IntKind.i64.wrap (H.1 + m2) = H'.1) (q3 : IntKind.i64.wrap (H.2 + m3) = H'.2)
    (ps : List (Int × Int)) (A : Option Addr) (cap : Nat) (he : wnE L H ≠ 0) (_hb : ps.length * 16 ≤ 140737488355328) (_hnil : NilOk A cap) (w : World) (_hr : Pts w w.heap.size A ps) :
    Calls Try.prog 6 #[.agg #[.int .i64 L.1, .int .i64 L.2, .int .i64 H.1, .int .i64 H.2], .agg #[.int .u8 m0, .int .u8 m1, .int .u8 m2, .int .u8 m3], .agg #[.int .i64 p.1, .int .i64 p.2], .agg #[.int .i64 q.1, .int .i64 q.2], .slice A ps.length cap] w fun e w' => e = .returned (.bool true) ∧ Below w.heap.size w w' := by
  have HOK := Lib.hid (fun W => ref_windowOK L H W)
  have en : (wnE L H != 0) = true := by simpa using he
  clear _hr _hnil _hb he
  generalize wnE L H = x at *
  have w0 := wrap_in (n := m0) (by omega) (by omega)
  have w1 := wrap_in (n := m1) (by omega) (by omega)
  have w2 := wrap_in (n := m2) (by omega) (by omega)
  have w3 := wrap_in (n := m3) (by omega) (by omega)
  clear b0 b1 b2 b3
  have HQ0 := ((((Hold.refl w).new #[.int .i64 L.1, .int .i64 L.2, .int .i64 H.1, .int .i64 H.2] 25).new' #[.int .u8 m0, .int .u8 m1, .int .u8 m2, .int .u8 m3] 41 (n := w.heap.size + 1) (by simp)).new' #[.int .i64 p.1, .int .i64 p.2] 23 (n := w.heap.size + 1 + 1) (by simp)).new' #[.int .i64 q.1, .int .i64 q.2] 23 (n := w.heap.size + 1 + 1 + 1) (by simp)
  go_enter Try.func6, Try.ntmps6
  go_upto_region 1 with (fail)
  generalize (World.alloc _ _) = W0 at HQ0 ⊢
  generalize w.heap.size + 1 + 1 + 1 = g8 at HQ0 ⊢
  generalize w.heap.size + 1 + 1 = g7 at HQ0 ⊢
  generalize w.heap.size + 1 = g6 at HQ0 ⊢
  obtain ⟨g5, hg5⟩ : ∃ g, w.heap.size = g := ⟨_, rfl⟩
  rw [hg5] at HQ0 ⊢
  have HG5 := Lib.hid hg5
  clear hg5
  have HQ := HQ0.new #[.int .i64 L'.1, .int .i64 L'.2, .int .i64 H'.1, .int .i64 H'.2] 25
  obtain ⟨c0, c1, c2, c3⟩ := HQ0.win (.tail _ (.tail _ (.tail _ (.head _))))
  obtain ⟨k0, k1, k2, k3⟩ := HQ0.four (.tail _ (.tail _ (.head _)))
  go_upto_region 2 with (fail)
  clear c0 c1 c2 c3 k0 k1 k2 k3 HQ0 q0 q1 q2 q3 w0 w1 w2 w3
  generalize (World.alloc W0 _) = W1 at HQ ⊢
  generalize W0.heap.size = g11 at HQ ⊢
  obtain ⟨⟨c0, c1, c2, c3⟩, ⟨v0, v1, v2, v3⟩, d0, d1, d2, d3⟩ := rd HQ
  go_wp2_with (first
    | (go_at_call 11; go_must ((first | (with_reducible refine (win_answers _).mono ?_)); rintro e w' ⟨rfl, hB⟩; replace HQ := HQ.on hB; clear hB c0 c1 c2 c3 v0 v1 v2 v3 d0 d1 d2 d3; obtain ⟨⟨c0, c1, c2, c3⟩, ⟨v0, v1, v2, v3⟩, d0, d1, d2, d3⟩ := rd HQ))
    | (go_at_call 9; go_must ((first | (with_reducible refine (HOK.out _).mono ?_)); rintro e w' ⟨rfl, hB⟩; replace HQ := HQ.on hB; clear hB c0 c1 c2 c3 v0 v1 v2 v3 d0 d1 d2 d3; obtain ⟨⟨c0, c1, c2, c3⟩, ⟨v0, v1, v2, v3⟩, d0, d1, d2, d3⟩ := rd HQ)))
  have HB := Lib.hid HQ.1
  clear HQ c0 c1 c2 c3 v0 v1 v2 v3 d0 d1 d2 d3
  go_ret
  exact ⟨rfl, HB.out⟩
set_option maxRecDepth 100000 in
set_option maxHeartbeats 8000000 in
theorem walk_small (L H L' H' p q : Int × Int) (m0 m1 m2 m3 : Int) (b0 : 0 ≤ m0 ∧ m0 ≤ 255) (b1 : 0 ≤ m1 ∧ m1 ≤ 255) (b2 : 0 ≤ m2 ∧ m2 ≤ 255) (b3 : 0 ≤ m3 ∧ m3 ≤ 255)
    (q0 : IntKind.i64.wrap (L.1 - m0) = L'.1) (q1 : IntKind.i64.wrap (L.2 - m1) = L'.2) (q2 : IntKind.i64.wrap (H.1 + m2) = H'.1) (q3 : IntKind.i64.wrap (H.2 + m3) = H'.2)
    (ps : List (Int × Int)) (A : Option Addr) (cap : Nat) (he : wnE L H = 0) (he' : wnE L' H' ≠ 0) (_hb : ps.length * 16 ≤ 140737488355328) (_hnil : NilOk A cap) (w : World) (_hr : Pts w w.heap.size A ps) :
    Calls Try.prog 6 #[.agg #[.int .i64 L.1, .int .i64 L.2, .int .i64 H.1, .int .i64 H.2], .agg #[.int .u8 m0, .int .u8 m1, .int .u8 m2, .int .u8 m3], .agg #[.int .i64 p.1, .int .i64 p.2], .agg #[.int .i64 q.1, .int .i64 q.2], .slice A ps.length cap] w fun e w' => e = .returned (.bool true) ∧ Below w.heap.size w w' := by
  have HOK := Lib.hid (fun W => ref_windowOK L H W)
  have HOK' := Lib.hid (fun W => ref_windowOK L' H' W)
  have en : (wnE L' H' != 0) = true := by simpa using he'
  rw [he] at HOK
  clear _hr _hnil _hb he he'
  generalize wnE L' H' = x at *
  have w0 := wrap_in (n := m0) (by omega) (by omega)
  have w1 := wrap_in (n := m1) (by omega) (by omega)
  have w2 := wrap_in (n := m2) (by omega) (by omega)
  have w3 := wrap_in (n := m3) (by omega) (by omega)
  clear b0 b1 b2 b3
  have HQ0 := ((((Hold.refl w).new #[.int .i64 L.1, .int .i64 L.2, .int .i64 H.1, .int .i64 H.2] 25).new' #[.int .u8 m0, .int .u8 m1, .int .u8 m2, .int .u8 m3] 41 (n := w.heap.size + 1) (by simp)).new' #[.int .i64 p.1, .int .i64 p.2] 23 (n := w.heap.size + 1 + 1) (by simp)).new' #[.int .i64 q.1, .int .i64 q.2] 23 (n := w.heap.size + 1 + 1 + 1) (by simp)
  go_enter Try.func6, Try.ntmps6
  go_upto_region 1 with (fail)
  generalize (World.alloc _ _) = W0 at HQ0 ⊢
  generalize w.heap.size + 1 + 1 + 1 = g8 at HQ0 ⊢
  generalize w.heap.size + 1 + 1 = g7 at HQ0 ⊢
  generalize w.heap.size + 1 = g6 at HQ0 ⊢
  obtain ⟨g5, hg5⟩ : ∃ g, w.heap.size = g := ⟨_, rfl⟩
  rw [hg5] at HQ0 ⊢
  have HG5 := Lib.hid hg5
  clear hg5
  have HQ := HQ0.new #[.int .i64 L'.1, .int .i64 L'.2, .int .i64 H'.1, .int .i64 H'.2] 25
  obtain ⟨c0, c1, c2, c3⟩ := HQ0.win (.tail _ (.tail _ (.tail _ (.head _))))
  obtain ⟨k0, k1, k2, k3⟩ := HQ0.four (.tail _ (.tail _ (.head _)))
  go_upto_region 2 with (fail)
  clear c0 c1 c2 c3 k0 k1 k2 k3 HQ0 q0 q1 q2 q3 w0 w1 w2 w3
  generalize (World.alloc W0 _) = W1 at HQ ⊢
  generalize W0.heap.size = g11 at HQ ⊢
  obtain ⟨⟨c0, c1, c2, c3⟩, ⟨v0, v1, v2, v3⟩, d0, d1, d2, d3⟩ := rd HQ
  go_wp2_with (first
    | (go_at_call 11; go_must ((first | (with_reducible refine (win_answers _).mono ?_)); rintro e w' ⟨rfl, hB⟩; replace HQ := HQ.on hB; clear hB c0 c1 c2 c3 v0 v1 v2 v3 d0 d1 d2 d3; obtain ⟨⟨c0, c1, c2, c3⟩, ⟨v0, v1, v2, v3⟩, d0, d1, d2, d3⟩ := rd HQ))
    | (go_at_call 9; go_must ((first | (with_reducible refine (HOK.out _).mono ?_) | (with_reducible refine (HOK'.out _).mono ?_)); rintro e w' ⟨rfl, hB⟩; replace HQ := HQ.on hB; clear hB c0 c1 c2 c3 v0 v1 v2 v3 d0 d1 d2 d3; obtain ⟨⟨c0, c1, c2, c3⟩, ⟨v0, v1, v2, v3⟩, d0, d1, d2, d3⟩ := rd HQ)))
  have HB := Lib.hid HQ.1
  clear HQ c0 c1 c2 c3 v0 v1 v2 v3 d0 d1 d2 d3
  go_ret
  exact ⟨rfl, HB.out⟩
set_option maxRecDepth 100000 in
set_option maxHeartbeats 8000000 in
theorem walk_good (L H L' H' p q : Int × Int) (m0 m1 m2 m3 : Int) (b0 : 0 ≤ m0 ∧ m0 ≤ 255) (b1 : 0 ≤ m1 ∧ m1 ≤ 255) (b2 : 0 ≤ m2 ∧ m2 ≤ 255) (b3 : 0 ≤ m3 ∧ m3 ≤ 255)
    (q0 : IntKind.i64.wrap (L.1 - m0) = L'.1) (q1 : IntKind.i64.wrap (L.2 - m1) = L'.2) (q2 : IntKind.i64.wrap (H.1 + m2) = H'.1) (q3 : IntKind.i64.wrap (H.2 + m3) = H'.2)
    (ps : List (Int × Int)) (A : Option Addr) (cap : Nat) (he : wnE L H = 0) (he' : wnE L' H' = 0) (hle : L'.1 ≤ L.1 ∧ L'.2 ≤ L.2 ∧ H.1 ≤ H'.1 ∧ H.2 ≤ H'.2) (hb : ps.length * 16 ≤ 140737488355328) (hnil : NilOk A cap) (w : World) (hr : Pts w w.heap.size A ps) :
    Calls Try.prog 6 #[.agg #[.int .i64 L.1, .int .i64 L.2, .int .i64 H.1, .int .i64 H.2], .agg #[.int .u8 m0, .int .u8 m1, .int .u8 m2, .int .u8 m3], .agg #[.int .i64 p.1, .int .i64 p.2], .agg #[.int .i64 q.1, .int .i64 q.2], .slice A ps.length cap] w fun e w' => e = .returned (.bool true) ∧ Below w.heap.size w w' := by
  have HN := Lib.hid (ps_len hb)
  have hown := fun K W (h : Hold w K W) => own_any ps A cap W (hr.on h.1) hnil hb
  have HOWN := Lib.hid hown
  have HOK := Lib.hid (fun W => ref_windowOK L H W)
  have HOK' := Lib.hid (fun W => ref_windowOK L' H' W)
  have HH := Lib.hid (fun W => Has_any L H p W)
  have HH' := Lib.hid (fun W => Has_any L' H' p W)
  have HC := Lib.hid (fun W => Cuts_any L H p q W)
  have HC' := Lib.hid (fun W => Cuts_any L' H' p q W)
  have HME := Lib.hid (fun A1 c1 W h => Meets_any L H ps A1 c1 HN.out W h)
  have HME' := Lib.hid (fun A1 c1 W h => Meets_any L' H' ps A1 c1 HN.out W h)
  have HX : Hid ((haV L H p = true → haV L' H' p = true) ∧ (cuV L H p q = true → cuV L' H' p q = true) ∧ (meV L H ps = true → meV L' H' ps = true)) := ⟨has_more he he' hle, cuts_more he he' hle, meets_more he he' hle⟩
  rw [he] at HOK
  rw [he'] at HOK'
  clear hr hnil hb he he' hle hown
  generalize haV L H p = xa at *
  generalize haV L' H' p = xb at *
  generalize cuV L H p q = xc at *
  generalize cuV L' H' p q = xd at *
  generalize meV L H ps = xx at *
  generalize meV L' H' ps = xy at *
  generalize frE L H [p] = ea at *
  generalize frE L' H' [p] = eb at *
  generalize frE L H [p, q] = ec at *
  generalize frE L' H' [p, q] = ed at *
  generalize meE L H ps = ex at *
  generalize meE L' H' ps = ey at *
  have w0 := wrap_in (n := m0) (by omega) (by omega)
  have w1 := wrap_in (n := m1) (by omega) (by omega)
  have w2 := wrap_in (n := m2) (by omega) (by omega)
  have w3 := wrap_in (n := m3) (by omega) (by omega)
  clear b0 b1 b2 b3
  have HQ0 := ((((Hold.refl w).new #[.int .i64 L.1, .int .i64 L.2, .int .i64 H.1, .int .i64 H.2] 25).new' #[.int .u8 m0, .int .u8 m1, .int .u8 m2, .int .u8 m3] 41 (n := w.heap.size + 1) (by simp)).new' #[.int .i64 p.1, .int .i64 p.2] 23 (n := w.heap.size + 1 + 1) (by simp)).new' #[.int .i64 q.1, .int .i64 q.2] 23 (n := w.heap.size + 1 + 1 + 1) (by simp)
  go_enter Try.func6, Try.ntmps6
  go_upto_region 1 with (fail)
  generalize (World.alloc _ _) = W0 at HQ0 ⊢
  generalize w.heap.size + 1 + 1 + 1 = g8 at HQ0 ⊢
  generalize w.heap.size + 1 + 1 = g7 at HQ0 ⊢
  generalize w.heap.size + 1 = g6 at HQ0 ⊢
  obtain ⟨g5, hg5⟩ : ∃ g, w.heap.size = g := ⟨_, rfl⟩
  rw [hg5] at HQ0 ⊢
  have HG5 := Lib.hid hg5
  clear hg5
  have HQ := HQ0.new #[.int .i64 L'.1, .int .i64 L'.2, .int .i64 H'.1, .int .i64 H'.2] 25
  obtain ⟨c0, c1, c2, c3⟩ := HQ0.win (.tail _ (.tail _ (.tail _ (.head _))))
  obtain ⟨k0, k1, k2, k3⟩ := HQ0.four (.tail _ (.tail _ (.head _)))
  go_upto_region 2 with (fail)
  clear c0 c1 c2 c3 k0 k1 k2 k3 HQ0 q0 q1 q2 q3 w0 w1 w2 w3
  generalize (World.alloc W0 _) = W1 at HQ ⊢
  generalize W0.heap.size = g11 at HQ ⊢
  obtain ⟨⟨c0, c1, c2, c3⟩, ⟨v0, v1, v2, v3⟩, d0, d1, d2, d3⟩ := rd HQ
  go_upto_region 8 with (first
    | (go_at_call 11; go_must ((first | (with_reducible refine (win_answers _).mono ?_)); rintro e w' ⟨rfl, hB⟩; replace HQ := HQ.on hB; clear hB c0 c1 c2 c3 v0 v1 v2 v3 d0 d1 d2 d3; obtain ⟨⟨c0, c1, c2, c3⟩, ⟨v0, v1, v2, v3⟩, d0, d1, d2, d3⟩ := rd HQ))
    | (go_at_call 9; go_must ((first | (with_reducible refine (HOK.out _).mono ?_) | (with_reducible refine (HOK'.out _).mono ?_)); rintro e w' ⟨rfl, hB⟩; replace HQ := HQ.on hB; clear hB c0 c1 c2 c3 v0 v1 v2 v3 d0 d1 d2 d3; obtain ⟨⟨c0, c1, c2, c3⟩, ⟨v0, v1, v2, v3⟩, d0, d1, d2, d3⟩ := rd HQ))
    | (go_at_call 10; go_must ((first | (with_reducible refine (HH.out _).mono ?_) | (with_reducible refine (HH'.out _).mono ?_)); rintro e w' ⟨rfl, hB⟩; replace HQ := HQ.on hB; clear hB c0 c1 c2 c3 v0 v1 v2 v3 d0 d1 d2 d3; obtain ⟨⟨c0, c1, c2, c3⟩, ⟨v0, v1, v2, v3⟩, d0, d1, d2, d3⟩ := rd HQ))
    | (go_at_call 15; go_must ((first | (with_reducible refine (HC.out _).mono ?_) | (with_reducible refine (HC'.out _).mono ?_)); rintro e w' ⟨rfl, hB⟩; replace HQ := HQ.on hB; clear hB c0 c1 c2 c3 v0 v1 v2 v3 d0 d1 d2 d3; obtain ⟨⟨c0, c1, c2, c3⟩, ⟨v0, v1, v2, v3⟩, d0, d1, d2, d3⟩ := rd HQ)))
  clear HOK HOK' HH HH' HC HC'
  go_upto_region 8 with (fail)
  go_cut [20, 21] (fun sv se wx => sv = .bool xx ∧ se = .int .i64 ex ∧ Hold w [(g11, #[.int .i64 L'.1, .int .i64 L'.2, .int .i64 H'.1, .int .i64 H'.2], 25), (g8, #[.int .i64 q.1, .int .i64 q.2], 23), (g7, #[.int .i64 p.1, .int .i64 p.2], 23), (g6, #[.int .u8 m0, .int .u8 m1, .int .u8 m2, .int .u8 m3], 41), (g5, #[.int .i64 L.1, .int .i64 L.2, .int .i64 H.1, .int .i64 H.2], 25)] wx)
  case first =>
    clear HX
    go_region_held3 (fun W => W.cell? ⟨g5, 0, none⟩ = some (.int .i64 L.1) ∧ W.cell? ⟨g5, 1, none⟩ = some (.int .i64 L.2) ∧ W.cell? ⟨g5, 2, none⟩ = some (.int .i64 H.1) ∧ W.cell? ⟨g5, 3, none⟩ = some (.int .i64 H.2)) (first | exact keep1 (by assumption) | exact keep1 (Hold.drew (by assumption))) (first
      | (go_at_call 19; (with_reducible refine (HOWN.out [(g11, #[.int .i64 L'.1, .int .i64 L'.2, .int .i64 H'.1, .int .i64 H'.2], 25), (g8, #[.int .i64 q.1, .int .i64 q.2], 23), (g7, #[.int .i64 p.1, .int .i64 p.2], 23), (g6, #[.int .u8 m0, .int .u8 m1, .int .u8 m2, .int .u8 m3], 41), (g5, #[.int .i64 L.1, .int .i64 L.2, .int .i64 H.1, .int .i64 H.2], 25)] _ (by first | assumption | exact Hold.drew (by assumption))).mono ?_); rintro e w' ⟨v, rfl, HV⟩; obtain ⟨A1, c1, rfl, hp1⟩ := HV.pts; have HS' := Hold.on (by first | assumption | exact Hold.drew (by assumption)) HV.1; have HP1 := Lib.hid hp1; clear hp1 HV)
      | (go_at_call 18; (with_reducible refine (HME.out _ _ _ HP1.out).mono ?_); rintro e w' ⟨rfl, hB⟩; have HS' := Hold.on (by assumption) hB))
    go_wp2_with fail
    go_meet
    exact ⟨rfl, rfl, HS'⟩
  case rest =>
    obtain ⟨rfl, rfl, HT⟩ := hcut
    clear HQ c0 c1 c2 c3 v0 v1 v2 v3 d0 d1 d2 d3 HME
    have HQ := HT
    clear HT
    obtain ⟨⟨c0, c1, c2, c3⟩, ⟨v0, v1, v2, v3⟩, d0, d1, d2, d3⟩ := rd HQ
    go_upto_region 9 with (fail)
    go_cut [22, 23] (fun sv se wx => sv = .bool xy ∧ se = .int .i64 ey ∧ Hold w [(g11, #[.int .i64 L'.1, .int .i64 L'.2, .int .i64 H'.1, .int .i64 H'.2], 25), (g8, #[.int .i64 q.1, .int .i64 q.2], 23), (g7, #[.int .i64 p.1, .int .i64 p.2], 23), (g6, #[.int .u8 m0, .int .u8 m1, .int .u8 m2, .int .u8 m3], 41), (g5, #[.int .i64 L.1, .int .i64 L.2, .int .i64 H.1, .int .i64 H.2], 25)] wx)
    case first =>
      clear HX
      go_region_held3 (fun W => W.cell? ⟨g11, 0, none⟩ = some (.int .i64 L'.1) ∧ W.cell? ⟨g11, 1, none⟩ = some (.int .i64 L'.2) ∧ W.cell? ⟨g11, 2, none⟩ = some (.int .i64 H'.1) ∧ W.cell? ⟨g11, 3, none⟩ = some (.int .i64 H'.2)) (first | exact keep2 (by assumption) | exact keep2 (Hold.drew (by assumption))) (first
        | (go_at_call 19; (with_reducible refine (HOWN.out [(g11, #[.int .i64 L'.1, .int .i64 L'.2, .int .i64 H'.1, .int .i64 H'.2], 25), (g8, #[.int .i64 q.1, .int .i64 q.2], 23), (g7, #[.int .i64 p.1, .int .i64 p.2], 23), (g6, #[.int .u8 m0, .int .u8 m1, .int .u8 m2, .int .u8 m3], 41), (g5, #[.int .i64 L.1, .int .i64 L.2, .int .i64 H.1, .int .i64 H.2], 25)] _ (by first | assumption | exact Hold.drew (by assumption))).mono ?_); rintro e w' ⟨v, rfl, HV⟩; obtain ⟨A1, c1, rfl, hp1⟩ := HV.pts; have HS' := Hold.on (by first | assumption | exact Hold.drew (by assumption)) HV.1; have HP1 := Lib.hid hp1; clear hp1 HV)
        | (go_at_call 18; (with_reducible refine (HME'.out _ _ _ HP1.out).mono ?_); rintro e w' ⟨rfl, hB⟩; have HS' := Hold.on (by assumption) hB))
      go_wp2_with fail
      go_meet
      exact ⟨rfl, rfl, HS'⟩
    case rest =>
      obtain ⟨rfl, rfl, HT⟩ := hcut
      have HB := Lib.hid HT.1
      clear HQ c0 c1 c2 c3 v0 v1 v2 v3 d0 d1 d2 d3 HME' HT
      obtain ⟨h1, h2, h3⟩ := HX.out
      clear HX
      have e1 : xa = false ∨ (xa = true ∧ xb = true) := by cases xa <;> simp_all
      have e2 : xc = false ∨ (xc = true ∧ xd = true) := by cases xc <;> simp_all
      have e3 : xx = false ∨ (xx = true ∧ xy = true) := by cases xx <;> simp_all
      clear h1 h2 h3
      rcases e1 with rfl | ⟨rfl, rfl⟩ <;> rcases e2 with rfl | ⟨rfl, rfl⟩ <;> rcases e3 with rfl | ⟨rfl, rfl⟩
      all_goals
        go_wp2
        go_ret
        exact ⟨rfl, HB.out⟩
theorem law_walk (L H p q : Int × Int) (m0 m1 m2 m3 : Int) (b0 : 0 ≤ m0 ∧ m0 ≤ 255) (b1 : 0 ≤ m1 ∧ m1 ≤ 255) (b2 : 0 ≤ m2 ∧ m2 ≤ 255) (b3 : 0 ≤ m3 ∧ m3 ≤ 255)
    (ps : List (Int × Int)) (A : Option Addr) (cap : Nat) (hb : ps.length * 16 ≤ 140737488355328) (hnil : NilOk A cap) (w : World) (hr : Pts w w.heap.size A ps) :
    Calls Try.prog 6 #[.agg #[.int .i64 L.1, .int .i64 L.2, .int .i64 H.1, .int .i64 H.2], .agg #[.int .u8 m0, .int .u8 m1, .int .u8 m2, .int .u8 m3], .agg #[.int .i64 p.1, .int .i64 p.2], .agg #[.int .i64 q.1, .int .i64 q.2], .slice A ps.length cap] w fun e w' => e = .returned (.bool true) ∧ Below w.heap.size w w' := by
  obtain ⟨L', hL1, hL2⟩ : ∃ L' : Int × Int, IntKind.i64.wrap (L.1 - m0) = L'.1 ∧ IntKind.i64.wrap (L.2 - m1) = L'.2 := ⟨(_, _), rfl, rfl⟩
  obtain ⟨H', hH1, hH2⟩ : ∃ H' : Int × Int, IntKind.i64.wrap (H.1 + m2) = H'.1 ∧ IntKind.i64.wrap (H.2 + m3) = H'.2 := ⟨(_, _), rfl, rfl⟩
  by_cases he : wnE L H = 0
  · by_cases he' : wnE L' H' = 0
    · refine walk_good L H L' H' p q m0 m1 m2 m3 b0 b1 b2 b3 hL1 hL2 hH1 hH2 ps A cap he he' ?_ hb hnil w hr
      obtain ⟨⟨l1, l2, l3, l4⟩, h1, h2, h3, h4⟩ := gdL_two.1 (wnE_zero.1 he).1
      rw [wrap_in (by omega) (by omega)] at hL1 hL2 hH1 hH2
      omega
    · exact walk_small L H L' H' p q m0 m1 m2 m3 b0 b1 b2 b3 hL1 hL2 hH1 hH2 ps A cap he he' hb hnil w hr
  · exact walk_bad L H L' H' p q m0 m1 m2 m3 b0 b1 b2 b3 hL1 hL2 hH1 hH2 ps A cap he hb hnil w hr
end Go.Proofs.Ytjpjlnijmhjoaaa.windowGrows
