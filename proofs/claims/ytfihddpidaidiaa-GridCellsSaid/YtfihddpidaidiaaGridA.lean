/- The cell in which a point lies, by the program and by the document. -/
import Derived.Test.YtfihddpidaidiaaSide
import Derived.Test.YtfihddpidaidiaaRefWin
import Derived.Test.YtfihddpidaidiaaGridP
import Derived.BigQuiet
namespace Go.Proofs.Ytfihddpidaidiaa
open Go.RowKit
theorem Hold.lo2 {w W : World} {g0 g1 : Nat} {x0 y0 x1 y1 : Value} {t0 t1 : TypeId} (h : Hold w [(g1, #[x1, y1], t1), (g0, #[x0, y0], t0)] W) : W.cell? ⟨g0, 0, none⟩ = some x0 ∧ W.cell? ⟨g0, 1, none⟩ = some y0 := ⟨h.rd2.1, h.rd2.2.1⟩
set_option maxRecDepth 100000 in
set_option maxHeartbeats 1000000 in
theorem cutDown_any (n : Int) (h : -1073741824 ≤ n ∧ n ≤ 1073741824) (w : World) :
    Calls Try.prog 35 #[.int .i64 n] w fun e w' => e = .returned (.int .i64 (cdv n)) ∧ w' = w := by
  obtain ⟨q, r, h1, h2, ⟨h3, h4⟩, ⟨h5, h6⟩, hc⟩ := cut_facts h
  have h7 : IntKind.i64.wrap q = q := IntWalk.i64_in _ (by omega)
  have h8 : IntKind.i64.wrap r = r := IntWalk.i64_in _ (by omega)
  rcases hc with ⟨k0, k1, k2⟩ | ⟨k0, k1, k2⟩ | ⟨k0, k1, k2⟩
  · have HE := Lib.hid k2
    clear k2 h
    go_enter Try.func35, Try.ntmps35
    go_wp2
    go_ret
    rw [HE.out]
    exact ⟨rfl, rfl⟩
  · have HE := Lib.hid k2
    clear k2 h
    subst k1
    go_enter Try.func35, Try.ntmps35
    go_wp2
    go_ret
    rw [HE.out]
    exact ⟨rfl, rfl⟩
  · have HE := Lib.hid k2
    clear k2 h
    go_enter Try.func35, Try.ntmps35
    go_wp2
    go_ret
    rw [HE.out]
    exact ⟨rfl, rfl⟩
set_option maxRecDepth 100000 in
set_option maxHeartbeats 1000000 in
theorem ref_cell (n : Int) (h : -1073741824 ≤ n ∧ n ≤ 1073741824) (w : World) :
    Calls Try.prog 25 #[.int .i64 n] w fun e w' => e = .returned (.int .i64 (cdv n)) ∧ w' = w := by
  obtain ⟨q, r, h1, h2, ⟨h3, h4⟩, ⟨h5, h6⟩, hc⟩ := cut_facts h
  have h7 : IntKind.i64.wrap q = q := IntWalk.i64_in _ (by omega)
  have h8 : IntKind.i64.wrap r = r := IntWalk.i64_in _ (by omega)
  rcases hc with ⟨k0, k1, k2⟩ | ⟨k0, k1, k2⟩ | ⟨k0, k1, k2⟩
  · have HE := Lib.hid k2
    clear k2 h
    have k3 : ¬ r = 0 := by omega
    clear k1
    go_enter Try.func25, Try.ntmps25
    go_wp2
    go_ret
    rw [HE.out]
    exact ⟨rfl, rfl⟩
  · have HE := Lib.hid k2
    clear k2 h
    subst k1
    go_enter Try.func25, Try.ntmps25
    go_wp2
    go_ret
    rw [HE.out]
    exact ⟨rfl, rfl⟩
  · have HE := Lib.hid k2
    clear k2 h
    clear k1
    go_enter Try.func25, Try.ntmps25
    go_wp2
    go_ret
    rw [HE.out]
    exact ⟨rfl, rfl⟩
set_option maxRecDepth 100000 in
set_option maxHeartbeats 2000000 in
theorem cellOf_any (p : Int × Int) (h : gd p = true) (w : World) :
    Calls Try.prog 24 #[.agg #[.int .i64 p.1, .int .i64 p.2]] w fun e w' => e = .returned (.agg #[.int .i64 (cdP p).1, .int .i64 (cdP p).2]) ∧ Below w.heap.size w w' := by
  have hg := gd_iff.1 h
  unfold Gd at hg
  have H1 := Lib.hid (fun W => cutDown_any p.1 ⟨hg.1, hg.2.1⟩ W)
  have H2 := Lib.hid (fun W => cutDown_any p.2 hg.2.2 W)
  clear h hg
  have HQ := ((Hold.refl w).new #[.int .i64 p.1, .int .i64 p.2] 23).new' #[.int .i64 0, .int .i64 0] 24 (n := w.heap.size + 1) (by simp)
  go_enter Try.func24, Try.ntmps24
  go_upto_region 1 with (fail)
  generalize (World.alloc _ _) = W1 at HQ ⊢
  generalize w.heap.size + 1 = g1 at HQ ⊢
  obtain ⟨g0, hg0⟩ : ∃ g, w.heap.size = g := ⟨_, rfl⟩
  rw [hg0] at HQ ⊢
  have HG0 := Lib.hid hg0
  clear hg0
  obtain ⟨f0, f1⟩ := HQ.fz (.head _)
  obtain ⟨d0, d1⟩ := HQ.pt (.head _)
  go_region_held3 (fun W => W.cell? ⟨g0, 0, none⟩ = some (.int .i64 p.1) ∧ W.cell? ⟨g0, 1, none⟩ = some (.int .i64 p.2)) (first | exact Hold.lo2 (by assumption) | exact Hold.lo2 (Hold.drew (by assumption)) | exact Hold.lo2 (Hold.set2 (Hold.drew (by assumption)) _ _)) ((first
    | (go_at_call 35; (with_reducible refine (H1.out _).mono ?_); rintro e w' ⟨rfl, rfl⟩)
    | (go_at_call 35; (with_reducible refine (H2.out _).mono ?_); rintro e w' ⟨rfl, rfl⟩)))
  all_goals
    (try go_wp2_with fail)
    have HE := HQ.set2 (.int .i64 (cdv p.1)) (.int .i64 (cdv p.2))
    have HD := HE.1.drew
    obtain ⟨n0, n1⟩ := HE.pt (.head _)
    refine bodyPost_ret (v := .agg #[.int .i64 (cdP p).1, .int .i64 (cdP p).2]) ?_ rfl ⟨rfl, HD⟩
    simp [results, Try.results24, go_sem, n0, n1, cdP]
set_option maxRecDepth 100000 in
set_option maxHeartbeats 2000000 in
theorem ref_At (p : Int × Int) (h : gd p = true) (w : World) :
    Calls Try.prog 12 #[.agg #[.int .i64 p.1, .int .i64 p.2]] w fun e w' => e = .returned (.agg #[.int .i64 (cdP p).1, .int .i64 (cdP p).2]) ∧ Below w.heap.size w w' := by
  have hg := gd_iff.1 h
  unfold Gd at hg
  have H1 := Lib.hid (fun W => ref_cell p.1 ⟨hg.1, hg.2.1⟩ W)
  have H2 := Lib.hid (fun W => ref_cell p.2 hg.2.2 W)
  clear h hg
  have HQ := ((Hold.refl w).new #[.int .i64 p.1, .int .i64 p.2] 23).new' #[.int .i64 0, .int .i64 0] 24 (n := w.heap.size + 1) (by simp)
  go_enter Try.func12, Try.ntmps12
  go_upto_region 1 with (fail)
  generalize (World.alloc _ _) = W1 at HQ ⊢
  generalize w.heap.size + 1 = g1 at HQ ⊢
  obtain ⟨g0, hg0⟩ : ∃ g, w.heap.size = g := ⟨_, rfl⟩
  rw [hg0] at HQ ⊢
  have HG0 := Lib.hid hg0
  clear hg0
  obtain ⟨f0, f1⟩ := HQ.fz (.head _)
  obtain ⟨d0, d1⟩ := HQ.pt (.head _)
  go_region_held3 (fun W => W.cell? ⟨g0, 0, none⟩ = some (.int .i64 p.1) ∧ W.cell? ⟨g0, 1, none⟩ = some (.int .i64 p.2)) (first | exact Hold.lo2 (by assumption) | exact Hold.lo2 (Hold.drew (by assumption)) | exact Hold.lo2 (Hold.set2 (Hold.drew (by assumption)) _ _)) ((first
    | (go_at_call 25; (with_reducible refine (H1.out _).mono ?_); rintro e w' ⟨rfl, rfl⟩)
    | (go_at_call 25; (with_reducible refine (H2.out _).mono ?_); rintro e w' ⟨rfl, rfl⟩)))
  all_goals
    (try go_wp2_with fail)
    have HE := HQ.set2 (.int .i64 (cdv p.1)) (.int .i64 (cdv p.2))
    have HD := HE.1.drew
    obtain ⟨n0, n1⟩ := HE.pt (.head _)
    refine bodyPost_ret (v := .agg #[.int .i64 (cdP p).1, .int .i64 (cdP p).2]) ?_ rfl ⟨rfl, HD⟩
    simp [results, Try.results12, go_sem, n0, n1, cdP]
/-- What At answers. -/
def atV (p : Int × Int) : Int × Int := if gd p = true then cdP p else (0, 0)
def atE (p : Int × Int) : Int := if gd p = true then 0 else 3
theorem at_bad {p : Int × Int} (h : gd p = false) : atV p = (0, 0) ∧ atE p = 3 := by unfold atV atE; rw [h]; exact ⟨rfl, rfl⟩
theorem at_good {p : Int × Int} (h : gd p = true) : atV p = cdP p ∧ atE p = 0 := by unfold atV atE; rw [h]; exact ⟨rfl, rfl⟩
set_option maxRecDepth 100000 in
set_option maxHeartbeats 2000000 in
theorem At_any (p : Int × Int) (w : World) :
    Calls Try.prog 9 #[.agg #[.int .i64 p.1, .int .i64 p.2]] w fun e w' => e = .returned (.tuple #[.agg #[.int .i64 (atV p).1, .int .i64 (atV p).2], .int .i64 (atE p)]) ∧ Below w.heap.size w w' := by
  have HGD := Lib.hid (fun t w W h => good_lone p 1 t w W h)
  have HQ := ((Hold.refl w).new #[.int .i64 p.1, .int .i64 p.2] 23).new' #[.int .i64 0, .int .i64 0] 24 (n := w.heap.size + 1) (by simp)
  go_enter Try.func9, Try.ntmps9
  go_upto_region 1 with (fail)
  generalize (World.alloc _ _) = W1 at HQ ⊢
  generalize w.heap.size + 1 = g1 at HQ ⊢
  obtain ⟨g0, hg0⟩ : ∃ g, w.heap.size = g := ⟨_, rfl⟩
  rw [hg0] at HQ ⊢
  have HG0 := Lib.hid hg0
  clear hg0
  obtain ⟨c0, c1⟩ := HQ.pt (.tail _ (.head _))
  go_wp2_with fail
  go_at_call 23
  refine (HGD.out _ _ _ rfl).mono ?_
  rintro e w1 ⟨rfl, hB⟩
  replace HQ := (HQ.alloc _).on hB
  clear hB c0 c1
  cases hp : gd p
  · obtain ⟨h1, h2⟩ := at_bad hp
    have h3 := Lib.hid h1
    have h4 := Lib.hid h2
    obtain ⟨f0, f1⟩ := HQ.fz (.head _)
    obtain ⟨c0, c1⟩ := HQ.pt (.head _)
    have HE := HQ.set2 (.int .i64 0) (.int .i64 0)
    obtain ⟨n0, n1⟩ := HE.pt (.head _)
    have HF := Lib.hid HE.1
    clear HE HQ h1 h2 hp
    go_wp2
    refine bodyPost_ret (v := .tuple #[.agg #[.int .i64 0, .int .i64 0], .int .i64 3]) ?_ rfl ⟨by rw [h3.out, h4.out], HG0.out ▸ HF.out⟩
    simp [results, Try.results9, go_sem, n0, n1]
  · obtain ⟨h1, h2⟩ := at_good hp
    have h3 := Lib.hid h1
    have h4 := Lib.hid h2
    have HCE := Lib.hid (fun W => cellOf_any p hp W)
    obtain ⟨c0, c1⟩ := HQ.pt (.tail _ (.head _))
    have HQX := Lib.hid HQ
    clear HQ h1 h2 hp
    go_wp2_with fail
    go_at_call 24
    refine (HCE.out _).mono ?_
    rintro e w2 ⟨rfl, hB⟩
    have HQ := HQX.out.on hB
    clear hB c0 c1
    obtain ⟨f0, f1⟩ := HQ.fz (.head _)
    obtain ⟨c0, c1⟩ := HQ.pt (.head _)
    have HE := HQ.set2 (.int .i64 (cdP p).1) (.int .i64 (cdP p).2)
    obtain ⟨n0, n1⟩ := HE.pt (.head _)
    have HF := Lib.hid HE.1
    clear HE HQ HQX
    go_wp2
    refine bodyPost_ret (v := .tuple #[.agg #[.int .i64 (cdP p).1, .int .i64 (cdP p).2], .int .i64 0]) ?_ rfl ⟨by rw [h3.out, h4.out], HG0.out ▸ HF.out⟩
    simp [results, Try.results9, go_sem, n0, n1]
set_option maxRecDepth 100000 in
set_option maxHeartbeats 2000000 in
theorem grid_answers (w : World) :
    Calls Try.prog 11 #[] w fun e w' => e = .returned (.bool true) ∧ Below w.heap.size w w' := by
  have HAT : Hid (∀ W, Calls Try.prog 9 #[.agg #[.int .i64 (-1), .int .i64 0]] W fun e w' => e = .returned (.tuple #[.agg #[.int .i64 (-1), .int .i64 0], .int .i64 0]) ∧ Below W.heap.size W w') := fun W => At_any (-1, 0) W
  go_enter Try.func11, Try.ntmps11
  go_wp2_with fail
  go_at_call 9
  refine (HAT.out _).mono ?_
  rintro e w1 ⟨rfl, hB⟩
  have HQ := ((Hold.refl w).on hB).new #[.int .i64 (-1), .int .i64 0] 24
  have HF := Lib.hid HQ.1
  obtain ⟨c0, c1⟩ := HQ.pt (.head _)
  clear HQ hB
  go_wp2
  go_ret
  exact ⟨rfl, HF.out⟩
end Go.Proofs.Ytfihddpidaidiaa
