/- The law WideOrder: comparing 128-bit integers is an order, goes with sums, and tells a difference's sign. -/
import Derived.Test.YtchhhaiokpecjaaDoorFrame
import Derived.Deep.DeepCutAuto
namespace Go.Proofs.YtchhhaiokpecjaaDoor.wideOrder
open Go.RowKit

/-- Three pairs of words in blocks of the call's own. -/
structure Tri (w : World) (g1 g2 : Nat) (a a' b b' c c' : Int) (W : World) : Prop where
  x : W.heap[w.heap.size]? = some (.cells #[.int .i64 a, .int .u64 a'] 25 (0, 0))
  y : W.heap[g1]? = some (.cells #[.int .i64 b, .int .u64 b'] 25 (0, 0))
  z : W.heap[g2]? = some (.cells #[.int .i64 c, .int .u64 c'] 25 (0, 0))
  below : Below w.heap.size w W
variable {w W W' : World} {g1 g2 : Nat} {a a' b b' c c' : Int}
theorem Tri.on (h : Tri w g1 g2 a a' b b' c c' W) (hb : Below W.heap.size W W') : Tri w g1 g2 a a' b b' c c' W' :=
  ⟨(hb.block _ (blk_lt h.x)).trans h.x, (hb.block _ (blk_lt h.y)).trans h.y, (hb.block _ (blk_lt h.z)).trans h.z, h.below.trans (hb.mono h.below.size)⟩
theorem Tri.drew (h : Tri w g1 g2 a a' b b' c c' W) : Tri w g1 g2 a a' b b' c c' W.drew := ⟨h.x, h.y, h.z, h.below.drew⟩
/-- What a region's loads read. -/
def Cells (w : World) (g1 g2 : Nat) (a a' b b' c c' : Int) (w' : World) : Prop := w'.cell? ⟨w.heap.size, 0, none⟩ = some (.int .i64 a) ∧ w'.cell? ⟨w.heap.size, 1, none⟩ = some (.int .u64 a') ∧ w'.cell? ⟨g1, 0, none⟩ = some (.int .i64 b) ∧ w'.cell? ⟨g1, 1, none⟩ = some (.int .u64 b') ∧ w'.cell? ⟨g2, 0, none⟩ = some (.int .i64 c) ∧ w'.cell? ⟨g2, 1, none⟩ = some (.int .u64 c')
theorem Tri.cells (h : Tri w g1 g2 a a' b b' c c' W) : Cells w g1 g2 a a' b b' c c' W := ⟨blk_cell h.x 0, blk_cell h.x 1, blk_cell h.y 0, blk_cell h.y 1, blk_cell h.z 0, blk_cell h.z 1⟩
/-- One pair of words more, and two. -/
structure Tri1 (w : World) (g1 g2 g3 : Nat) (a a' b b' c c' x x' : Int) (W : World) : Prop where
  t : Tri w g1 g2 a a' b b' c c' W
  p : W.heap[g3]? = some (.cells #[.int .i64 x, .int .u64 x'] 25 (0, 0))
structure Tri2 (w : World) (g1 g2 g3 g4 : Nat) (a a' b b' c c' x x' y y' : Int) (W : World) : Prop where
  t : Tri1 w g1 g2 g3 a a' b b' c c' x x' W
  p : W.heap[g4]? = some (.cells #[.int .i64 y, .int .u64 y'] 25 (0, 0))
theorem Tri.alloc (h : Tri w g1 g2 a a' b b' c c' W) (o : Obj) : Tri w g1 g2 a a' b b' c c' (W.alloc o) :=
  ⟨blk_alloc h.x _, blk_alloc h.y _, blk_alloc h.z _, h.below.alloc h.below.size _⟩
theorem Tri1.mk' (h : Tri w g1 g2 a a' b b' c c' W) (x x' : Int) : Tri1 w g1 g2 W.heap.size a a' b b' c c' x x' (W.alloc (Obj.cells #[.int .i64 x, .int .u64 x'] 25)) := ⟨h.alloc _, heap_alloc_new _ _⟩
theorem Tri1.on {g3 : Nat} {x x' : Int} (h : Tri1 w g1 g2 g3 a a' b b' c c' x x' W) (hb : Below W.heap.size W W') : Tri1 w g1 g2 g3 a a' b b' c c' x x' W' := ⟨h.t.on hb, (hb.block _ (blk_lt h.p)).trans h.p⟩
theorem Tri1.drew {g3 : Nat} {x x' : Int} (h : Tri1 w g1 g2 g3 a a' b b' c c' x x' W) : Tri1 w g1 g2 g3 a a' b b' c c' x x' W.drew := ⟨h.t.drew, h.p⟩
theorem Tri2.mk' {g3 : Nat} {x x' : Int} (h : Tri1 w g1 g2 g3 a a' b b' c c' x x' W) (y y' : Int) : Tri2 w g1 g2 g3 W.heap.size a a' b b' c c' x x' y y' (W.alloc (Obj.cells #[.int .i64 y, .int .u64 y'] 25)) := ⟨⟨h.t.alloc _, blk_alloc h.p _⟩, heap_alloc_new _ _⟩
theorem Tri2.on {g3 g4 : Nat} {x x' y y' : Int} (h : Tri2 w g1 g2 g3 g4 a a' b b' c c' x x' y y' W) (hb : Below W.heap.size W W') : Tri2 w g1 g2 g3 g4 a a' b b' c c' x x' y y' W' := ⟨h.t.on hb, (hb.block _ (blk_lt h.p)).trans h.p⟩
theorem Tri2.drew {g3 g4 : Nat} {x x' y y' : Int} (h : Tri2 w g1 g2 g3 g4 a a' b b' c c' x x' y y' W) : Tri2 w g1 g2 g3 g4 a a' b b' c c' x x' y y' W.drew := ⟨h.t.drew, h.p⟩
theorem Tri1.reads {g3 : Nat} {x x' : Int} (h : Tri1 w g1 g2 g3 a a' b b' c c' x x' W) : W.cell? ⟨g3, 0, none⟩ = some (.int .i64 x) ∧ W.cell? ⟨g3, 1, none⟩ = some (.int .u64 x') ∧ W.cell? ⟨w.heap.size, 0, none⟩ = some (.int .i64 a) ∧ W.cell? ⟨w.heap.size, 1, none⟩ = some (.int .u64 a') ∧ W.cell? ⟨g1, 0, none⟩ = some (.int .i64 b) ∧ W.cell? ⟨g1, 1, none⟩ = some (.int .u64 b') :=
  ⟨blk_cell h.p 0, blk_cell h.p 1, blk_cell h.t.x 0, blk_cell h.t.x 1, blk_cell h.t.y 0, blk_cell h.t.y 1⟩
theorem Tri2.reads {g3 g4 : Nat} {x x' y y' : Int} (h : Tri2 w g1 g2 g3 g4 a a' b b' c c' x x' y y' W) : W.cell? ⟨g4, 0, none⟩ = some (.int .i64 y) ∧ W.cell? ⟨g4, 1, none⟩ = some (.int .u64 y') ∧ W.cell? ⟨g3, 0, none⟩ = some (.int .i64 x) ∧ W.cell? ⟨g3, 1, none⟩ = some (.int .u64 x') ∧ W.cell? ⟨w.heap.size, 0, none⟩ = some (.int .i64 a) ∧ W.cell? ⟨w.heap.size, 1, none⟩ = some (.int .u64 a') ∧ W.cell? ⟨g1, 0, none⟩ = some (.int .i64 b) ∧ W.cell? ⟨g1, 1, none⟩ = some (.int .u64 b') :=
  ⟨blk_cell h.p 0, blk_cell h.p 1, h.t.reads⟩
theorem Tri.drewN (h : Tri w g1 g2 a a' b b' c c' W) (n : Nat) : Tri w g1 g2 a a' b b' c c' (W.drewN n) := ⟨h.x, h.y, h.z, below_drewN h.below n⟩
theorem Tri.start (w : World) (a a' b b' c c' : Int) : Tri w (w.heap.size + 1) (w.heap.size + 1 + 1) a a' b b' c c' (((w.alloc (Obj.cells #[.int .i64 a, .int .u64 a'] 25)).alloc (Obj.cells #[.int .i64 b, .int .u64 b'] 25)).alloc (Obj.cells #[.int .i64 c, .int .u64 c'] 25)) := by
  refine ⟨blk_alloc (blk_alloc (heap_alloc_new w _) _) _, blk_alloc (new2 w _ _ _ _) _, ?_, by go_grown⟩
  have h3 := heap_alloc_new ((w.alloc (Obj.cells #[.int .i64 a, .int .u64 a'] 25)).alloc (Obj.cells #[.int .i64 b, .int .u64 b'] 25)) (Obj.cells #[.int .i64 c, .int .u64 c'] 25)
  simp only [World.size_alloc] at h3
  exact h3

theorem cmp_neg (va : Wf a a') (vb : Wf b b') : cmp a a' b b' = -cmp b b' a a' := by
  rw [cmp_val va vb, cmp_val vb va]
  split <;> split <;> (try split) <;> (try split) <;> omega
theorem cmp_bd : -1 ≤ cmp a a' b b' ∧ cmp a a' b b' ≤ 1 := by
  unfold cmp
  split
  · omega
  · split <;> omega
theorem cmp_turn (va : Wf a a') (vb : Wf b b') : (cmp a a' b b' != IntKind.i64.wrap (-cmp b b' a a')) = false := by
  have h := cmp_neg va vb
  have h2 := cmp_bd (a := b) (a' := b') (b := a) (b' := a')
  rw [IntKind.wrap_i64, bne_eq_false_iff_eq]
  omega
theorem cmp_trans (va : Wf a a') (vb : Wf b b') (vc : Wf c c') (h1 : decide (cmp a a' b b' ≤ 0) = true) (h2 : decide (cmp b b' c c' ≤ 0) = true) : decide (0 < cmp a a' c c') = false := by
  rw [cmp_val va vb] at h1
  rw [cmp_val vb vc] at h2
  rw [cmp_val va vc]
  simp only [decide_eq_true_eq, decide_eq_false_iff_not] at *
  split <;> (try split) <;> simp_all <;> omega
theorem sub_sign (va : Wf a a') (vb : Wf b b') (hf : mFit a a' b b' = true) : (cmp (bH a a' b b') (bL a a' b b') 0 0 != cmp a a' b b') = false := by
  have hr := minus_fit va vb
  rw [hf] at hr
  have hr := of_decide_eq_true hr.symm
  have hv := minus_val va vb hr
  have w0 : Wf 0 0 := by unfold Wf; omega
  unfold bH bL
  rw [hf, if_pos rfl, if_pos rfl, cmp_val minus_wf w0, cmp_val va vb, hv, bne_eq_false_iff_eq]
  have hz : val 0 0 = 0 := rfl
  rw [hz]
  split <;> split <;> (try split) <;> (try split) <;> omega
theorem add_order (va : Wf a a') (vb : Wf b b') (vc : Wf c c') (hf : pFit a a' c c' = true) (hg : pFit b b' c c' = true) : (cmp (aH a a' c c') (aL a a' c c') (aH b b' c c') (aL b b' c c') == cmp a a' b b') = true := by
  have hr := plus_fit va vc
  rw [hf] at hr
  have hr := of_decide_eq_true hr.symm
  have hs := plus_fit vb vc
  rw [hg] at hs
  have hs := of_decide_eq_true hs.symm
  have hv := plus_val va vc hr
  have hu := plus_val vb vc hs
  unfold aH aL
  rw [hf, hg, if_pos rfl, if_pos rfl, if_pos rfl, if_pos rfl, cmp_val plus_wf plus_wf, cmp_val va vb, hv, hu, beq_iff_eq]
  split <;> split <;> (try split) <;> (try split) <;> omega
theorem cmp_eq : (cmp a a' b b' == 0) = (a == b && a' == b') := by
  unfold cmp
  by_cases h : a = b ∧ a' = b'
  · simp [h]
  · rw [if_neg h]
    split <;> simp <;> omega

set_option maxRecDepth 100000 in
set_option maxHeartbeats 2000000 in
theorem law_walk (va : Wf a a') (vb : Wf b b') (vc : Wf c c') (w : World) (htab : Lib.TabBelow Tryd.prog w.heap.size w "internal/strconv.uint64pow10" .u64 Lib.pow10Tab) :
    Calls Tryd.prog 8 #[.agg #[.int .i64 a, .int .u64 a'], .agg #[.int .i64 b, .int .u64 b'], .agg #[.int .i64 c, .int .u64 c']] w fun e w' => e = .returned (.bool true) ∧ Below w.heap.size w w' := by
  have N1 := Lib.hid (cmp_turn va vb)
  go_enter Tryd.func8, Tryd.ntmps8
  go_upto_region 1 with (fail)
  have HS := Tri.start w a a' b b' c c'
  generalize (((w.alloc _).alloc _).alloc _) = W at HS ⊢
  generalize w.heap.size + 1 + 1 = g2 at *
  generalize w.heap.size + 1 = g1 at *
  have HT := Lib.hid (fun (W' : World) (h : Tri w g1 g2 a a' b b' c c' W') => fun W'' (hb : Below W'.heap.size W' W'') => htab W'' (h.below.trans (hb.mono h.below.size)))
  clear htab
  go_cut [34] (fun s34 wx => s34 = .bool false ∧ Tri w g1 g2 a a' b b' c c' wx)
  case first =>
    have n1 := N1.out
    by_cases q1 : a = b
    · have q1' : (a == b) = true := by simpa using q1
      by_cases q2 : a' = b'
      · have q2' : (a' == b') = true := by simpa using q2
        have e1 : (cmp a a' b b' == 0) = true := by rw [cmp_eq, q1', q2']; rfl
        clear q1 q2
        go_region_held3 (fun w' => w'.cell? ⟨w.heap.size, 0, none⟩ = some (.int .i64 a) ∧ w'.cell? ⟨w.heap.size, 1, none⟩ = some (.int .u64 a') ∧ w'.cell? ⟨g1, 0, none⟩ = some (.int .i64 b) ∧ w'.cell? ⟨g1, 1, none⟩ = some (.int .u64 b') ∧ w'.cell? ⟨g2, 0, none⟩ = some (.int .i64 c) ∧ w'.cell? ⟨g2, 1, none⟩ = some (.int .u64 c')) ((first | exact Tri.cells (by assumption) | exact Tri.cells (Tri.drew (by assumption)))) (first
          | (go_at_call 10; refine (answers_any _ (HT.out _ (by first | assumption | exact Tri.drew (by assumption)))).mono ?_; rintro e w' ⟨rfl, hB⟩; have HS' := Tri.on (by first | assumption | exact Tri.drew (by assumption)) hB)
          | (go_at_call 23; refine (compare_any _ _ _ _ _).mono ?_; rintro e w' ⟨rfl, hB⟩; have HS' := Tri.on (by first | assumption | exact Tri.drew (by assumption)) hB))
        go_wp2_with fail
        go_meet
        exact ⟨rfl, by assumption⟩
      · have q2' : (a' == b') = false := by simpa using q2
        have e1 : (cmp a a' b b' == 0) = false := by rw [cmp_eq, q1', q2']; rfl
        clear q1 q2
        go_region_held3 (fun w' => w'.cell? ⟨w.heap.size, 0, none⟩ = some (.int .i64 a) ∧ w'.cell? ⟨w.heap.size, 1, none⟩ = some (.int .u64 a') ∧ w'.cell? ⟨g1, 0, none⟩ = some (.int .i64 b) ∧ w'.cell? ⟨g1, 1, none⟩ = some (.int .u64 b') ∧ w'.cell? ⟨g2, 0, none⟩ = some (.int .i64 c) ∧ w'.cell? ⟨g2, 1, none⟩ = some (.int .u64 c')) ((first | exact Tri.cells (by assumption) | exact Tri.cells (Tri.drew (by assumption)))) (first
          | (go_at_call 10; refine (answers_any _ (HT.out _ (by first | assumption | exact Tri.drew (by assumption)))).mono ?_; rintro e w' ⟨rfl, hB⟩; have HS' := Tri.on (by first | assumption | exact Tri.drew (by assumption)) hB)
          | (go_at_call 23; refine (compare_any _ _ _ _ _).mono ?_; rintro e w' ⟨rfl, hB⟩; have HS' := Tri.on (by first | assumption | exact Tri.drew (by assumption)) hB))
        go_wp2_with fail
        go_meet
        exact ⟨rfl, by assumption⟩
    · have q1' : (a == b) = false := by simpa using q1
      have e1 : (cmp a a' b b' == 0) = false := by rw [cmp_eq, q1']; rfl
      clear q1
      go_region_held3 (fun w' => w'.cell? ⟨w.heap.size, 0, none⟩ = some (.int .i64 a) ∧ w'.cell? ⟨w.heap.size, 1, none⟩ = some (.int .u64 a') ∧ w'.cell? ⟨g1, 0, none⟩ = some (.int .i64 b) ∧ w'.cell? ⟨g1, 1, none⟩ = some (.int .u64 b') ∧ w'.cell? ⟨g2, 0, none⟩ = some (.int .i64 c) ∧ w'.cell? ⟨g2, 1, none⟩ = some (.int .u64 c')) ((first | exact Tri.cells (by assumption) | exact Tri.cells (Tri.drew (by assumption)))) (first
        | (go_at_call 10; refine (answers_any _ (HT.out _ (by first | assumption | exact Tri.drew (by assumption)))).mono ?_; rintro e w' ⟨rfl, hB⟩; have HS' := Tri.on (by first | assumption | exact Tri.drew (by assumption)) hB)
        | (go_at_call 23; refine (compare_any _ _ _ _ _).mono ?_; rintro e w' ⟨rfl, hB⟩; have HS' := Tri.on (by first | assumption | exact Tri.drew (by assumption)) hB))
      go_wp2_with fail
      go_meet
      exact ⟨rfl, by assumption⟩
  case rest =>
    obtain ⟨rfl, HS⟩ := hcut
    clear N1
    go_upto_region 3 with (fail)
    go_cut [50] (fun s50 wx => s50 = .bool false ∧ Tri w g1 g2 a a' b b' c c' wx)
    case first =>
      obtain ⟨f1, f2, f3, f4, f5, f6⟩ := HS.cells
      have hc := cmp_trans va vb vc
      cases c1 : decide (cmp a a' b b' ≤ 0)
      · clear hc
        go_wp2_with (go_at_call 23; refine (compare_any _ _ _ _ _).mono ?_; rintro e w1 ⟨rfl, hB⟩; replace HS := HS.on hB; obtain ⟨f1, f2, f3, f4, f5, f6⟩ := HS.cells)
        go_meet
        exact ⟨rfl, HS⟩
      · cases c2 : decide (cmp b b' c c' ≤ 0)
        · clear hc
          go_wp2_with (go_at_call 23; refine (compare_any _ _ _ _ _).mono ?_; rintro e w1 ⟨rfl, hB⟩; replace HS := HS.on hB; obtain ⟨f1, f2, f3, f4, f5, f6⟩ := HS.cells)
          go_meet
          exact ⟨rfl, HS⟩
        · have c3 := hc c1 c2
          clear hc
          go_wp2_with (go_at_call 23; refine (compare_any _ _ _ _ _).mono ?_; rintro e w1 ⟨rfl, hB⟩; replace HS := HS.on hB; obtain ⟨f1, f2, f3, f4, f5, f6⟩ := HS.cells)
          go_meet
          exact ⟨rfl, HS⟩
    case rest =>
      obtain ⟨rfl, HS⟩ := hcut
      have hsub := fun W => sub_any a a' b b' va vb W
      have HU := Lib.hid hsub
      clear hsub
      obtain ⟨f1, f2, f3, f4, f5, f6⟩ := HS.cells
      go_upto_region 6 with (go_at_call 17; refine (HU.out _).mono ?_; rintro e w1 ⟨rfl, hB⟩; replace HS := HS.on hB; obtain ⟨f1, f2, f3, f4, f5, f6⟩ := HS.cells)
      have HQ := Tri1.mk' HS (bH a a' b b') (bL a a' b b')
      clear f1 f2 f3 f4 f5 f6 HU hB HS
      generalize (World.alloc w1 _) = W1 at HQ ⊢
      generalize w1.heap.size = g7 at HQ ⊢
      go_cut [66] (fun s66 wx => s66 = .bool false ∧ Tri w g1 g2 a a' b b' c c' wx)
      case first =>
        cases hf : mFit a a' b b'
        · have e1 : (bE a a' b b' == 0) = false := by unfold bE; rw [hf]; rfl
          go_quiet (fail)
          go_wp2_with fail
          go_meet
          exact ⟨rfl, Tri.drewN HQ.t _⟩
        · have e1 : (bE a a' b b' == 0) = true := by unfold bE; rw [hf]; rfl
          have e2 := sub_sign va vb hf
          go_region_held3 (fun W => W.cell? ⟨g7, 0, none⟩ = some (.int .i64 (bH a a' b b')) ∧ W.cell? ⟨g7, 1, none⟩ = some (.int .u64 (bL a a' b b')) ∧ W.cell? ⟨w.heap.size, 0, none⟩ = some (.int .i64 a) ∧ W.cell? ⟨w.heap.size, 1, none⟩ = some (.int .u64 a') ∧ W.cell? ⟨g1, 0, none⟩ = some (.int .i64 b) ∧ W.cell? ⟨g1, 1, none⟩ = some (.int .u64 b')) ((first | exact Tri1.reads (by assumption) | exact Tri1.reads (Tri1.drew (by assumption)))) (first
            | (go_at_call 21; refine (sign_any _ _ _).mono ?_; rintro e w' ⟨rfl, hB⟩; have HS' := Tri1.on (by first | assumption | exact Tri1.drew (by assumption)) hB)
            | (go_at_call 23; refine (compare_any _ _ _ _ _).mono ?_; rintro e w' ⟨rfl, hB⟩; have HS' := Tri1.on (by first | assumption | exact Tri1.drew (by assumption)) hB))
          go_wp2_with fail
          go_meet
          exact ⟨rfl, Tri1.t (by assumption)⟩
      case rest =>
        obtain ⟨rfl, HS⟩ := hcut
        clear HQ
        have hadd1 := fun W => add_any a a' c c' va vc W
        have hadd2 := fun W => add_any b b' c c' vb vc W
        have H1 := Lib.hid hadd1
        have H2 := Lib.hid hadd2
        clear hadd1 hadd2
        obtain ⟨f1, f2, f3, f4, f5, f6⟩ := HS.cells
        go_wp2_with fail
        go_at_call 15
        refine (H1.out _).mono ?_
        rintro e w3 ⟨rfl, hB⟩
        replace HS := HS.on hB
        clear f1 f2 f3 f4 f5 f6 hB H1
        have HQ := Tri1.mk' HS (aH a a' c c') (aL a a' c c')
        obtain ⟨f1, f2, f3, f4, f5, f6⟩ := HQ.t.cells
        go_wp2_with fail
        go_at_call 15
        refine (H2.out _).mono ?_
        rintro e w4 ⟨rfl, hB⟩
        replace HQ := HQ.on hB
        clear f1 f2 f3 f4 f5 f6 hB H2
        have HR := Tri2.mk' HQ (aH b b' c c') (aL b b' c c')
        go_upto_region 10 with (fail)
        generalize (World.alloc w4 _) = W4 at HR ⊢
        generalize w4.heap.size = g11 at *
        generalize w3.heap.size = g9 at *
        clear HQ HS
        cases hf : pFit a a' c c'
        · have e1 : (aE a a' c c' != 0) = true := by unfold aE; rw [hf]; rfl
          go_quiet (fail)
          go_wp2
          go_ret
          exact ⟨rfl, below_drewN HR.t.t.below _⟩
        · have e1 : (aE a a' c c' != 0) = false := by unfold aE; rw [hf]; rfl
          cases hg : pFit b b' c c'
          · have e2 : (aE b b' c c' != 0) = true := by unfold aE; rw [hg]; rfl
            go_quiet (fail)
            go_wp2
            go_ret
            exact ⟨rfl, below_drewN HR.t.t.below _⟩
          · have e2 : (aE b b' c c' != 0) = false := by unfold aE; rw [hg]; rfl
            have e3 := add_order va vb vc hf hg
            go_region_held3 (fun W => W.cell? ⟨g11, 0, none⟩ = some (.int .i64 (aH b b' c c')) ∧ W.cell? ⟨g11, 1, none⟩ = some (.int .u64 (aL b b' c c')) ∧ W.cell? ⟨g9, 0, none⟩ = some (.int .i64 (aH a a' c c')) ∧ W.cell? ⟨g9, 1, none⟩ = some (.int .u64 (aL a a' c c')) ∧ W.cell? ⟨w.heap.size, 0, none⟩ = some (.int .i64 a) ∧ W.cell? ⟨w.heap.size, 1, none⟩ = some (.int .u64 a') ∧ W.cell? ⟨g1, 0, none⟩ = some (.int .i64 b) ∧ W.cell? ⟨g1, 1, none⟩ = some (.int .u64 b')) ((first | exact Tri2.reads (by assumption) | exact Tri2.reads (Tri2.drew (by assumption)))) (first
              | (go_at_call 23; refine (compare_any _ _ _ _ _).mono ?_; rintro e w' ⟨rfl, hB⟩; have HS' := Tri2.on (by first | assumption | exact Tri2.drew (by assumption)) hB))
            go_wp2
            go_ret
            exact ⟨rfl, Tri.below (Tri1.t (Tri2.t (by assumption)))⟩
end Go.Proofs.YtchhhaiokpecjaaDoor.wideOrder
