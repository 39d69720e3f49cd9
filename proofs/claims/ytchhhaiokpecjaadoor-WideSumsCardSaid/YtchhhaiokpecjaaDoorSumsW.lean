/- The law WideSums: the program's sums and differences are the document's. -/
import Derived.Test.YtchhhaiokpecjaaDoorFrame
import Derived.Test.YtchhhaiokpecjaaDoorRefB
import Derived.Deep.LoopGhost
namespace Go.Proofs.YtchhhaiokpecjaaDoor.wideSums
open Go.RowKit
variable {a a' b b' c c' : Int}

/-- The list of pairs that the law goes through. -/
def Trio (g : Nat) (a a' b b' c c' : Int) (W : World) : Prop :=
  W.heap[g]? = some (.cells #[.int .i64 a, .int .u64 a', .int .i64 b, .int .u64 b', .int .i64 b, .int .u64 b', .int .i64 c, .int .u64 c', .int .i64 c, .int .u64 c', .int .i64 a, .int .u64 a'] 29 (0, 0))
theorem Trio.on {g : Nat} {W W' : World} (h : Trio g a a' b b' c c' W) (hb : Below W.heap.size W W') : Trio g a a' b b' c c' W' := (hb.block _ (blk_lt h)).trans h
/-- A round's two numbers. -/
theorem Trio.at_ {g : Nat} {W : World} (h : Trio g a a' b b' c c' W) (va : Wf a a') (vb : Wf b b') (vc : Wf c c') (n : Nat) (hn : n < 3) : ∃ p p' q q' : Int, Wf p p' ∧ Wf q q' ∧
    W.cell? ⟨g, n * 4, none⟩ = some (.int .i64 p) ∧ W.cell? ⟨g, n * 4 + 1, none⟩ = some (.int .u64 p') ∧ W.cell? ⟨g, n * 4 + 2, none⟩ = some (.int .i64 q) ∧ W.cell? ⟨g, n * 4 + 2 + 1, none⟩ = some (.int .u64 q') := by
  have hc := fun i => blk_cell h i
  match n, hn with
  | 0, _ => exact ⟨a, a', b, b', va, vb, hc 0, hc 1, hc 2, hc 3⟩
  | 1, _ => exact ⟨b, b', c, c', vb, vc, hc 4, hc 5, hc 6, hc 7⟩
  | 2, _ => exact ⟨c, c', a, a', vc, va, hc 8, hc 9, hc 10, hc 11⟩

set_option maxRecDepth 100000 in
set_option maxHeartbeats 2000000 in
theorem law_walk (va : Wf a a') (vb : Wf b b') (vc : Wf c c') (w : World) (htab : Lib.TabBelow Tryd.prog w.heap.size w "internal/strconv.uint64pow10" .u64 Lib.pow10Tab) :
    Calls Tryd.prog 4 #[.agg #[.int .i64 a, .int .u64 a'], .agg #[.int .i64 b, .int .u64 b'], .agg #[.int .i64 c, .int .u64 c']] w fun e w' => e = .returned (.bool true) ∧ Below w.heap.size w w' := by
  go_enter Tryd.func4, Tryd.ntmps4
  go_wp2_with fail
  have HS : Trio (w.heap.size + 1 + 1 + 1) a a' b b' c c' ((((w.alloc (Obj.cells #[.int .i64 a, .int .u64 a'] 25)).alloc (Obj.cells #[.int .i64 b, .int .u64 b'] 25)).alloc (Obj.cells #[.int .i64 c, .int .u64 c'] 25)).alloc (Obj.cells #[.int .i64 a, .int .u64 a', .int .i64 b, .int .u64 b', .int .i64 b, .int .u64 b', .int .i64 c, .int .u64 c', .int .i64 c, .int .u64 c', .int .i64 a, .int .u64 a'] 29)) := by
    have h3 := heap_alloc_new (((w.alloc (Obj.cells #[.int .i64 a, .int .u64 a'] 25)).alloc (Obj.cells #[.int .i64 b, .int .u64 b'] 25)).alloc (Obj.cells #[.int .i64 c, .int .u64 c'] 25)) (Obj.cells #[.int .i64 a, .int .u64 a', .int .i64 b, .int .u64 b', .int .i64 b, .int .u64 b', .int .i64 c, .int .u64 c', .int .i64 c, .int .u64 c', .int .i64 a, .int .u64 a'] 29)
    simp only [World.size_alloc] at h3
    exact h3
  have HB : Below w.heap.size w ((((w.alloc (Obj.cells #[.int .i64 a, .int .u64 a'] 25)).alloc (Obj.cells #[.int .i64 b, .int .u64 b'] 25)).alloc (Obj.cells #[.int .i64 c, .int .u64 c'] 25)).alloc (Obj.cells #[.int .i64 a, .int .u64 a', .int .i64 b, .int .u64 b', .int .i64 b, .int .u64 b', .int .i64 c, .int .u64 c', .int .i64 c, .int .u64 c', .int .i64 a, .int .u64 a'] 29)) := by go_grown
  generalize ((((w.alloc _).alloc _).alloc _).alloc _) = W at HS HB ⊢
  generalize w.heap.size + 1 + 1 + 1 = gl at HS ⊢
  go_loopg [8] 3 (fun k i wr => ∃ n : Nat, n ≤ 3 ∧ k = 3 - n ∧ i = .int .i64 n ∧ Trio gl a a' b b' c c' wr ∧ Below w.heap.size w wr)
  case atStart => exact ⟨0, by omega, rfl, rfl, HS, HB⟩
  case round =>
    obtain ⟨n, hn, hk, rfl, HT, HW⟩ := hrel
    have hk' := Lib.hid hk
    clear hk HS HB
    by_cases hlt : n < 3
    · obtain ⟨p, p', q, q', vp, vq, f0, f1, f2, f3⟩ := HT.at_ va vb vc n hlt
      have b0 : (0 : Int) ≤ (n : Int) := by omega
      have b1 : (n : Int) < 3 := by omega
      go_wp2_with fail
      have HE : Has w [] wr := ⟨HW, fun _ h => by cases h⟩
      go_cut [9, 10] (fun s9 s10 wx => ∃ g9 g10, s9 = .pointer (some ⟨g9, 0, none⟩) ∧ s10 = .pointer (some ⟨g10, 0, none⟩) ∧ Has w [(g9, p, p'), (g10, q, q')] wx ∧ Trio gl a a' b b' c c' wx)
      case first =>
        go_region_held3 (fun W => W.cell? ⟨gl, n * 4, none⟩ = some (.int .i64 p) ∧ W.cell? ⟨gl, n * 4 + 1, none⟩ = some (.int .u64 p') ∧ W.cell? ⟨gl, n * 4 + 2, none⟩ = some (.int .i64 q) ∧ W.cell? ⟨gl, n * 4 + 2 + 1, none⟩ = some (.int .u64 q')) (go_keep) (fail)
        all_goals
          go_wp2_with fail
          go_meet
          first
            | exact ⟨_, _, rfl, rfl, (((HE.new p p').new' q q' (n := wr.heap.size + 1) (by simp)).sub (by simp)).drew, blk_alloc (blk_alloc HT _) _⟩
            | exact ⟨_, _, rfl, rfl, (((HE.new q q').new' p p' (n := wr.heap.size + 1) (by simp)).sub (by simp)).drew, blk_alloc (blk_alloc HT _) _⟩
      case rest =>
        obtain ⟨g9, g10, rfl, rfl, HQ, HT⟩ := hcut
        clear f0 f1 f2 f3 HW b0 b1
        have A1 := Lib.hid (fun W => add_any p p' q q' vp vq W)
        have A2 := Lib.hid (fun W => ref_add p p' q q' vp vq W)
        have A3 := Lib.hid (fun W => sub_any p p' q q' vp vq W)
        have A4 := Lib.hid (fun W => ref_sub p p' q q' vp vq W)
        obtain ⟨f1, f2, f3, f4⟩ := HQ.cells2
        go_wp2_with fail
        go_at_call 15
        refine (A1.out _).mono ?_
        rintro e w1 ⟨rfl, hB⟩
        have HT1 := HT.on hB
        have HQ1 := (HQ.on hB).new (aH p p' q q') (aL p p' q q')
        clear hB f1 f2 f3 f4
        obtain ⟨f1, f2, f3, f4, f5, f6⟩ := HQ1.cells3
        go_wp2_with fail
        go_at_call 16
        refine (A2.out _).mono ?_
        rintro e w2 ⟨rfl, hB⟩
        have HT2 := Trio.on (blk_alloc HT1 _) hB
        have HQ2 := (HQ1.on hB).new (aH p p' q q') (aL p p' q q')
        clear hB f1 f2 f3 f4 f5 f6
        generalize w1.heap.size = g11 at HQ2 ⊢
        obtain ⟨f1, f2, f3, f4, f5, f6, f7, f8⟩ := HQ2.cells4
        go_wp2_with fail
        go_at_call 17
        refine (A3.out _).mono ?_
        rintro e w3 ⟨rfl, hB⟩
        have HT3 := Trio.on (blk_alloc HT2 _) hB
        have HQ3 := (HQ2.on hB).new (bH p p' q q') (bL p p' q q')
        clear hB f1 f2 f3 f4 f5 f6 f7 f8
        generalize w2.heap.size = g13 at HQ3 ⊢
        obtain ⟨f1, f2⟩ := HQ3.look (g := g9) (a := p) (b := p') (by simp)
        obtain ⟨f3, f4⟩ := HQ3.look (g := g10) (a := q) (b := q') (by simp)
        go_wp2_with fail
        go_at_call 18
        refine (A4.out _).mono ?_
        rintro e w4 ⟨rfl, hB⟩
        have HT4 : Trio gl a a' b b' c c' (w4.alloc (Obj.cells #[.int .i64 (bH p p' q q'), .int .u64 (bL p p' q q')] 25)) := blk_alloc (Trio.on (blk_alloc HT3 _) hB) _
        have HQ4 := (HQ3.on hB).new (bH p p' q q') (bL p p' q q')
        clear hB f1 f2 f3 f4
        generalize w3.heap.size = g15 at HQ4 ⊢
        obtain ⟨f1, f2, f3, f4, f5, f6, f7, f8⟩ := HQ4.cells4
        clear HQ HQ1 HQ2 HQ3 HT HT1 HT2 HT3
        go_wp2
        go_roundg (2 - n)
        case measure => rw [hk'.out]; omega
        case rel => exact ⟨n + 1, by omega, by omega, by go_num, HT4, HQ4.1⟩
    · obtain rfl : n = 3 := by omega
      go_wp2_with fail
      go_at_call 10
      refine (answers_any _ (fun W' hb => htab W' (HW.trans (hb.mono HW.size)))).mono ?_
      rintro e w' ⟨rfl, hB⟩
      go_wp2
      go_ret
      exact ⟨rfl, HW.trans (hB.mono HW.size)⟩
end Go.Proofs.YtchhhaiokpecjaaDoor.wideSums
