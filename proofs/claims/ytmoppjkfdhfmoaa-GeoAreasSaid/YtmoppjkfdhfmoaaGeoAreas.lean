/- The law GeoAreas: a triangle's area is that of the three that a fourth point makes with its sides; squares of lengths tell which is longer. -/
import Derived.Test.YtmoppjkfdhfmoaaGeoAns
namespace Go.Proofs.Ytmoppjkfdhfmoaa
open Go.RowKit
section
variable {w W : World} {g0 g1 g2 g3 g4 g5 : Nat} {x0 y0 x1 y1 x2 y2 x3 y3 x4 y4 x5 y5 : Value} {t0 t1 t2 t3 t4 t5 : TypeId}
theorem Hold.rd6 (h : Hold w [(g5, #[x5, y5], t5), (g4, #[x4, y4], t4), (g3, #[x3, y3], t3), (g2, #[x2, y2], t2), (g1, #[x1, y1], t1), (g0, #[x0, y0], t0)] W) : W.cell? ⟨g0, 0, none⟩ = some x0 ∧ W.cell? ⟨g0, 1, none⟩ = some y0 ∧ W.cell? ⟨g1, 0, none⟩ = some x1 ∧ W.cell? ⟨g1, 1, none⟩ = some y1 ∧ W.cell? ⟨g2, 0, none⟩ = some x2 ∧ W.cell? ⟨g2, 1, none⟩ = some y2 ∧ W.cell? ⟨g3, 0, none⟩ = some x3 ∧ W.cell? ⟨g3, 1, none⟩ = some y3 ∧ W.cell? ⟨g4, 0, none⟩ = some x4 ∧ W.cell? ⟨g4, 1, none⟩ = some y4 ∧ W.cell? ⟨g5, 0, none⟩ = some x5 ∧ W.cell? ⟨g5, 1, none⟩ = some y5 :=
  ⟨(h.tail.tail.rd4).1, (h.tail.tail.rd4).2.1, (h.tail.tail.rd4).2.2.1, (h.tail.tail.rd4).2.2.2.1, (h.tail.tail.rd4).2.2.2.2.1, (h.tail.tail.rd4).2.2.2.2.2.1, (h.tail.tail.rd4).2.2.2.2.2.2.1, (h.tail.tail.rd4).2.2.2.2.2.2.2, (h.tail.pt (.head _)).1, (h.tail.pt (.head _)).2, (h.pt (.head _)).1, (h.pt (.head _)).2⟩
end
/-- What Cross answers of any points. -/
def cH (a b c : Int × Int) : Int := if gdL [a, b, c] then hiOf (crs a b c) else 0
def cL (a b c : Int × Int) : Int := if gdL [a, b, c] then loOf (crs a b c) else 0
theorem Cross_any (a b c : Int × Int) (w : World) :
    Calls Try.prog 10 #[.agg #[.int .i64 a.1, .int .i64 a.2], .agg #[.int .i64 b.1, .int .i64 b.2], .agg #[.int .i64 c.1, .int .i64 c.2]] w fun e w' => e = .returned (.tuple #[.agg #[.int .i64 (cH a b c), .int .u64 (cL a b c)], .int .i64 (te a b c)]) ∧ Below w.heap.size w w' := by
  unfold cH cL te
  cases hg : gdL [a, b, c]
  · exact Cross_bad a b c hg w
  · exact Cross_good a b c hg w
/-- Three sums in a row that are there. -/
theorem tot_three {x y z : Int} (hx : InR x) (hy : InR y) (hz : InR z) (hxy : InR (x + y)) (hs : InR (x + y + z)) : tH [(hiOf x, loOf x), (hiOf y, loOf y), (hiOf z, loOf z)] = hiOf (x + y + z) ∧ tL [(hiOf x, loOf x), (hiOf y, loOf y), (hiOf z, loOf z)] = loOf (x + y + z) ∧ tE [(hiOf x, loOf x), (hiOf y, loOf y), (hiOf z, loOf z)] = 0 := by
  obtain ⟨f1, a1, b1⟩ := plus_zero (wf_of hx)
  have step : ∀ {u v : Int}, InR u → InR v → InR (u + v) → pFit (hiOf u) (loOf u) (hiOf v) (loOf v) = true ∧ pHi (hiOf u) (loOf u) (hiOf v) (loOf v) = hiOf (u + v) ∧ pLo (loOf u) (loOf v) = loOf (u + v) := by
    intro u v hu hv huv
    have hm : pFit (hiOf u) (loOf u) (hiOf v) (loOf v) = true := by
      rw [plus_fit (wf_of hu) (wf_of hv), val_of, val_of]; exact decide_eq_true huv
    have hv' := plus_val (wf_of hu) (wf_of hv) (by rw [val_of, val_of]; exact huv)
    rw [val_of, val_of] at hv'
    exact ⟨hm, val_inj plus_wf (wf_of huv) (by rw [hv', val_of])⟩
  obtain ⟨f2, a2, b2⟩ := step hx hy hxy
  obtain ⟨f3, a3, b3⟩ := step hxy hz hs
  have e : totFrom [(hiOf x, loOf x), (hiOf y, loOf y), (hiOf z, loOf z)] (0, 0) = some (hiOf (x + y + z), loOf (x + y + z)) := by
    simp only [totFrom, f1, if_true, a1, b1, f2, a2, b2, f3, a3, b3]
  unfold tH tL tE
  rw [e]
  exact ⟨rfl, rfl, rfl⟩
theorem three_pairs {w : World} {B g : Nat} {t : TypeId} {h l h' l' h2 l2 : Int} (hh : w.heap[g]? = some (.cells #[.int .i64 h, .int .u64 l, .int .i64 h', .int .u64 l', .int .i64 h2, .int .u64 l2] t (0, 0))) (hg : g < B) : Pairs w B (some ⟨g, 0, none⟩) [(h, l), (h', l'), (h2, l2)] := by
  intro _
  refine ⟨_, rfl, hg, fun k p hp => ?_⟩
  have hc := fun i => blk_cell hh i
  match k, hp with
  | 0, hp => obtain rfl : (h, l) = p := by simpa using hp
             exact ⟨by simpa [Addr.add] using hc 0, by simpa [Addr.add] using hc 1⟩
  | 1, hp => obtain rfl : (h', l') = p := by simpa using hp
             exact ⟨by simpa [Addr.add] using hc 2, by simpa [Addr.add] using hc 3⟩
  | 2, hp => obtain rfl : (h2, l2) = p := by simpa using hp
             exact ⟨by simpa [Addr.add] using hc 4, by simpa [Addr.add] using hc 5⟩
theorem total_three {x y z : Int} (hx : InR x) (hy : InR y) (hz : InR z) (hxy : InR (x + y)) (hs : InR (x + y + z)) (cap : Nat) (w : World) (t : TypeId) :
    Calls Try.prog 23 #[.slice (some ⟨w.heap.size, 0, none⟩) 3 cap] (w.alloc (Obj.cells #[.int .i64 (hiOf x), .int .u64 (loOf x), .int .i64 (hiOf y), .int .u64 (loOf y), .int .i64 (hiOf z), .int .u64 (loOf z)] t (0, 0))) fun e w' => e = .returned (.tuple #[.agg #[.int .i64 (hiOf (x + y + z)), .int .u64 (loOf (x + y + z))], .int .i64 0]) ∧ Below (w.heap.size + 1) (w.alloc (Obj.cells #[.int .i64 (hiOf x), .int .u64 (loOf x), .int .i64 (hiOf y), .int .u64 (loOf y), .int .i64 (hiOf z), .int .u64 (loOf z)] t (0, 0))) w' := by
  have hh := heap_alloc_new w (Obj.cells #[.int .i64 (hiOf x), .int .u64 (loOf x), .int .i64 (hiOf y), .int .u64 (loOf y), .int .i64 (hiOf z), .int .u64 (loOf z)] t (0, 0))
  have h := total_any [(hiOf x, loOf x), (hiOf y, loOf y), (hiOf z, loOf z)] (some ⟨w.heap.size, 0, none⟩) cap _ (by unfold maxLen; simp) (three_pairs hh (blk_lt hh)) (by
    intro p hp
    simp only [List.mem_cons, List.not_mem_nil, or_false] at hp
    rcases hp with rfl | rfl | rfl
    · exact wf_of hx
    · exact wf_of hy
    · exact wf_of hz)
  obtain ⟨e1, e2, e3⟩ := tot_three hx hy hz hxy hs
  rw [e1, e2, e3] at h
  simp only [World.size_alloc] at h
  exact h
end Go.Proofs.Ytmoppjkfdhfmoaa
namespace Go.Proofs.Ytmoppjkfdhfmoaa.geoAreas
open Go.RowKit
set_option maxRecDepth 100000 in
set_option maxHeartbeats 2000000 in
theorem law_walk (a b c d : Int × Int) (w : World) :
    Calls Try.prog 8 #[.agg #[.int .i64 a.1, .int .i64 a.2], .agg #[.int .i64 b.1, .int .i64 b.2], .agg #[.int .i64 c.1, .int .i64 c.2], .agg #[.int .i64 d.1, .int .i64 d.2]] w fun e w' => e = .returned (.bool true) ∧ Below w.heap.size w w' := by
  cases hg : gdL [a, b, c, d]
  · have HQ := Hold.four0 w a b c d
    go_enter Try.func8, Try.ntmps8
    go_upto_region 1 with (fail)
    generalize (World.alloc _ _) = W1 at HQ ⊢
    generalize w.heap.size + 1 + 1 + 1 = g3 at HQ ⊢
    generalize w.heap.size + 1 + 1 = g2 at HQ ⊢
    generalize w.heap.size + 1 = g1 at HQ ⊢
    obtain ⟨f0, f1⟩ := HQ.pt (.tail _ (.tail _ (.tail _ (.head _))))
    obtain ⟨f2, f3⟩ := HQ.pt (.tail _ (.tail _ (.head _)))
    obtain ⟨f4, f5⟩ := HQ.pt (.tail _ (.head _))
    go_wp2_with fail
    go_at_call 10
    refine (Cross_any a b c _).mono ?_
    rintro e w' ⟨rfl, hB⟩
    replace HQ := HQ.on hB
    clear hB f0 f1 f2 f3 f4 f5
    replace HQ := HQ.alloc (Obj.cells #[.int .i64 (cH a b c), .int .u64 (cL a b c)] 29)
    go_upto_region 2 with (fail)
    generalize (World.alloc w' _) = V2 at HQ ⊢
    obtain ⟨f0, f1⟩ := HQ.pt (.head _)
    obtain ⟨f2, f3⟩ := HQ.pt (.tail _ (.tail _ (.tail _ (.head _))))
    obtain ⟨f4, f5⟩ := HQ.pt (.tail _ (.tail _ (.head _)))
    go_wp2_with fail
    go_at_call 10
    refine (Cross_any d a b _).mono ?_
    rintro e w' ⟨rfl, hB⟩
    replace HQ := HQ.on hB
    clear hB f0 f1 f2 f3 f4 f5
    replace HQ := HQ.alloc (Obj.cells #[.int .i64 (cH d a b), .int .u64 (cL d a b)] 29)
    go_upto_region 3 with (fail)
    generalize (World.alloc w' _) = V3 at HQ ⊢
    obtain ⟨f0, f1⟩ := HQ.pt (.head _)
    obtain ⟨f2, f3⟩ := HQ.pt (.tail _ (.tail _ (.head _)))
    obtain ⟨f4, f5⟩ := HQ.pt (.tail _ (.head _))
    go_wp2_with fail
    go_at_call 10
    refine (Cross_any d b c _).mono ?_
    rintro e w' ⟨rfl, hB⟩
    replace HQ := HQ.on hB
    clear hB f0 f1 f2 f3 f4 f5
    replace HQ := HQ.alloc (Obj.cells #[.int .i64 (cH d b c), .int .u64 (cL d b c)] 29)
    go_upto_region 4 with (fail)
    generalize (World.alloc w' _) = V4 at HQ ⊢
    obtain ⟨f0, f1⟩ := HQ.pt (.head _)
    obtain ⟨f2, f3⟩ := HQ.pt (.tail _ (.head _))
    obtain ⟨f4, f5⟩ := HQ.pt (.tail _ (.tail _ (.tail _ (.head _))))
    go_wp2_with fail
    go_at_call 10
    refine (Cross_any d c a _).mono ?_
    rintro e w' ⟨rfl, hB⟩
    replace HQ := HQ.on hB
    clear hB f0 f1 f2 f3 f4 f5
    replace HQ := HQ.alloc (Obj.cells #[.int .i64 (cH d c a), .int .u64 (cL d c a)] 29)
    go_upto_region 5 with (fail)
    generalize (World.alloc w' _) = V5 at HQ ⊢
    obtain ⟨f0, f1⟩ := HQ.pt (.tail _ (.tail _ (.tail _ (.head _))))
    obtain ⟨f2, f3⟩ := HQ.pt (.tail _ (.tail _ (.head _)))
    obtain ⟨f4, f5⟩ := HQ.pt (.tail _ (.head _))
    obtain ⟨f6, f7⟩ := HQ.pt (.head _)
    go_wp2_with fail
    go_at_call 12
    refine (answers_any _).mono ?_
    rintro e w' ⟨rfl, hB⟩
    replace HQ := HQ.on hB
    clear hB f0 f1 f2 f3 f4 f5 f6 f7
    obtain ⟨f0, f1⟩ := HQ.pt (.tail _ (.tail _ (.tail _ (.head _))))
    obtain ⟨f2, f3⟩ := HQ.pt (.tail _ (.tail _ (.head _)))
    obtain ⟨f4, f5⟩ := HQ.pt (.tail _ (.head _))
    obtain ⟨f6, f7⟩ := HQ.pt (.head _)
    go_wp2_with fail
    go_at_call 11
    refine (ref_good_four a b c d _ _ _).mono ?_
    rintro e w' ⟨rfl, hB⟩
    replace HQ := (HQ.alloc _).on (hB.mono (by simp only [World.size_alloc]; omega))
    clear hB f0 f1 f2 f3 f4 f5 f6 f7
    go_wp2_with fail
    go_at_call 12
    refine (answers_any _).mono ?_
    rintro e w' ⟨rfl, hB⟩
    replace HQ := HQ.on hB
    clear hB
    go_wp2
    go_ret
    exact ⟨rfl, HQ.1⟩
  · obtain ⟨ha, hb, hc, hd⟩ := gdL_four.1 hg
    have HX1 := Lib.hid (fun W => Cross_good a b c (gdL_three.2 ⟨ha, hb, hc⟩) W)
    have HX2 := Lib.hid (fun W => Cross_good d a b (gdL_three.2 ⟨hd, ha, hb⟩) W)
    have HX3 := Lib.hid (fun W => Cross_good d b c (gdL_three.2 ⟨hd, hb, hc⟩) W)
    have HX4 := Lib.hid (fun W => Cross_good d c a (gdL_three.2 ⟨hd, hc, ha⟩) W)
    have HY1 := Lib.hid (fun W => Square_good a b (gdL_two.2 ⟨ha, hb⟩) W)
    have hy2 := fun W => Square_good b a (gdL_two.2 ⟨hb, ha⟩) W
    rw [sqr_turn a b] at hy2
    have HY2 := Lib.hid hy2
    have l1 := crs_lim hd ha hb
    have l2 := crs_lim hd hb hc
    have l3 := crs_lim hd hc ha
    have ht := fun cap W t => total_three (x := crs d a b) (y := crs d b c) (z := crs d c a) (by unfold InR; omega) (by unfold InR; omega) (by unfold InR; omega) (by unfold InR; omega) (by unfold InR; omega) cap W t
    rw [← crs_sum] at ht
    have HT := Lib.hid ht
    have hl := sqr_lim ha hb
    have hsg := fun W => sign_any (hiOf (sqr a b)) (loOf (sqr a b)) W
    rw [cmp_sgn (by unfold InR; omega)] at hsg
    have HSG := Lib.hid hsg
    have HZ := Lib.hid (sqr_zero (a := a) (b := b))
    have HLL := Lib.hid hl
    clear hy2 ht hsg l1 l2 l3 ha hb hc hd hl
    have HQ := Hold.four0 w a b c d
    go_enter Try.func8, Try.ntmps8
    go_upto_region 1 with (fail)
    generalize (World.alloc _ _) = W1 at HQ ⊢
    generalize w.heap.size + 1 + 1 + 1 = g3 at HQ ⊢
    generalize w.heap.size + 1 + 1 = g2 at HQ ⊢
    generalize w.heap.size + 1 = g1 at HQ ⊢
    obtain ⟨f0, f1⟩ := HQ.pt (.tail _ (.tail _ (.tail _ (.head _))))
    obtain ⟨f2, f3⟩ := HQ.pt (.tail _ (.tail _ (.head _)))
    obtain ⟨f4, f5⟩ := HQ.pt (.tail _ (.head _))
    go_wp2_with fail
    go_at_call 10
    refine (HX1.out _).mono ?_
    rintro e w' ⟨rfl, hB⟩
    replace HQ := HQ.on hB
    clear hB f0 f1 f2 f3 f4 f5
    replace HQ := HQ.new #[.int .i64 (hiOf (crs a b c)), .int .u64 (loOf (crs a b c))] 29
    go_upto_region 2 with (fail)
    generalize (World.alloc w' _) = V2 at HQ ⊢
    generalize w'.heap.size = kx at HQ ⊢
    obtain ⟨f0, f1⟩ := HQ.pt (.tail _ (.head _))
    obtain ⟨f2, f3⟩ := HQ.pt (.tail _ (.tail _ (.tail _ (.tail _ (.head _)))))
    obtain ⟨f4, f5⟩ := HQ.pt (.tail _ (.tail _ (.tail _ (.head _))))
    go_wp2_with fail
    go_at_call 10
    refine (HX2.out _).mono ?_
    rintro e w' ⟨rfl, hB⟩
    replace HQ := HQ.on hB
    clear hB f0 f1 f2 f3 f4 f5
    replace HQ := HQ.new #[.int .i64 (hiOf (crs d a b)), .int .u64 (loOf (crs d a b))] 29
    go_upto_region 3 with (fail)
    generalize (World.alloc w' _) = V3 at HQ ⊢
    generalize w'.heap.size = kp at HQ ⊢
    obtain ⟨f0, f1⟩ := HQ.pt (.tail _ (.tail _ (.head _)))
    obtain ⟨f2, f3⟩ := HQ.pt (.tail _ (.tail _ (.tail _ (.tail _ (.head _)))))
    obtain ⟨f4, f5⟩ := HQ.pt (.tail _ (.tail _ (.tail _ (.head _))))
    go_wp2_with fail
    go_at_call 10
    refine (HX3.out _).mono ?_
    rintro e w' ⟨rfl, hB⟩
    replace HQ := HQ.on hB
    clear hB f0 f1 f2 f3 f4 f5
    replace HQ := HQ.new #[.int .i64 (hiOf (crs d b c)), .int .u64 (loOf (crs d b c))] 29
    go_upto_region 4 with (fail)
    generalize (World.alloc w' _) = V4 at HQ ⊢
    generalize w'.heap.size = kq at HQ ⊢
    obtain ⟨f0, f1⟩ := HQ.pt (.tail _ (.tail _ (.tail _ (.head _))))
    obtain ⟨f2, f3⟩ := HQ.pt (.tail _ (.tail _ (.tail _ (.tail _ (.head _)))))
    obtain ⟨f4, f5⟩ := HQ.pt (.tail _ (.tail _ (.tail _ (.tail _ (.tail _ (.tail _ (.head _)))))))
    go_wp2_with fail
    go_at_call 10
    refine (HX4.out _).mono ?_
    rintro e w' ⟨rfl, hB⟩
    replace HQ := HQ.on hB
    clear hB f0 f1 f2 f3 f4 f5
    replace HQ := HQ.new #[.int .i64 (hiOf (crs d c a)), .int .u64 (loOf (crs d c a))] 29
    go_upto_region 5 with (fail)
    generalize (World.alloc w' _) = V5 at HQ ⊢
    generalize w'.heap.size = kr at HQ ⊢
    obtain ⟨f0, f1⟩ := HQ.pt (.tail _ (.tail _ (.tail _ (.tail _ (.tail _ (.tail _ (.tail _ (.head _))))))))
    obtain ⟨f2, f3⟩ := HQ.pt (.tail _ (.tail _ (.tail _ (.tail _ (.tail _ (.tail _ (.head _)))))))
    obtain ⟨f4, f5⟩ := HQ.pt (.tail _ (.tail _ (.tail _ (.tail _ (.tail _ (.head _))))))
    obtain ⟨f6, f7⟩ := HQ.pt (.tail _ (.tail _ (.tail _ (.tail _ (.head _)))))
    go_wp2_with fail
    go_at_call 12
    refine (answers_any _).mono ?_
    rintro e w' ⟨rfl, hB⟩
    replace HQ := HQ.on hB
    clear hB f0 f1 f2 f3 f4 f5 f6 f7
    obtain ⟨f0, f1⟩ := HQ.pt (.tail _ (.tail _ (.tail _ (.tail _ (.tail _ (.tail _ (.tail _ (.head _))))))))
    obtain ⟨f2, f3⟩ := HQ.pt (.tail _ (.tail _ (.tail _ (.tail _ (.tail _ (.tail _ (.head _)))))))
    obtain ⟨f4, f5⟩ := HQ.pt (.tail _ (.tail _ (.tail _ (.tail _ (.tail _ (.head _))))))
    obtain ⟨f6, f7⟩ := HQ.pt (.tail _ (.tail _ (.tail _ (.tail _ (.head _)))))
    go_wp2_with fail
    go_at_call 11
    refine (ref_good_four a b c d _ _ _).mono ?_
    rintro e w' ⟨rfl, hB⟩
    replace HQ := (HQ.alloc _).on (hB.mono (by simp only [World.size_alloc]; omega))
    clear hB f0 f1 f2 f3 f4 f5 f6 f7
    obtain ⟨f0, f1⟩ := HQ.pt (.tail _ (.tail _ (.head _)))
    obtain ⟨f2, f3⟩ := HQ.pt (.tail _ (.head _))
    obtain ⟨f4, f5⟩ := HQ.pt (.head _)
    go_wp2_with fail
    go_at_call 23
    refine (HT.out _ _ _).mono ?_
    rintro e w' ⟨rfl, hB⟩
    replace HQ := (HQ.alloc _).on (hB.mono (by simp only [World.size_alloc]; omega))
    clear hB f0 f1 f2 f3 f4 f5
    replace HQ : Hold w [(kx, #[.int .i64 (hiOf (crs a b c)), .int .u64 (loOf (crs a b c))], 29), (g1, #[.int .i64 b.1, .int .i64 b.2], 23), (w.heap.size, #[.int .i64 a.1, .int .i64 a.2], 23)] w' := HQ.sub (by repeat (first | exact List.Sublist.slnil | apply List.Sublist.cons_cons | apply List.Sublist.cons))
    replace HQ := HQ.new #[.int .i64 (hiOf (crs a b c)), .int .u64 (loOf (crs a b c))] 29
    go_upto_region 8 with (fail)
    generalize (World.alloc w' _) = V8 at HQ ⊢
    generalize w'.heap.size = ks at HQ ⊢
    obtain ⟨f0, f1⟩ := HQ.pt (.tail _ (.tail _ (.tail _ (.head _))))
    obtain ⟨f2, f3⟩ := HQ.pt (.tail _ (.tail _ (.head _)))
    go_wp2_with fail
    go_at_call 18
    refine (HY1.out _).mono ?_
    rintro e w' ⟨rfl, hB⟩
    replace HQ := HQ.on hB
    clear hB f0 f1 f2 f3
    replace HQ := HQ.new #[.int .i64 (hiOf (sqr a b)), .int .u64 (loOf (sqr a b))] 29
    go_upto_region 9 with (fail)
    generalize (World.alloc w' _) = V9 at HQ ⊢
    generalize w'.heap.size = kn at HQ ⊢
    obtain ⟨f0, f1⟩ := HQ.pt (.tail _ (.tail _ (.tail _ (.tail _ (.head _)))))
    obtain ⟨f2, f3⟩ := HQ.pt (.tail _ (.tail _ (.tail _ (.head _))))
    go_wp2_with fail
    go_at_call 18
    refine (HY2.out _).mono ?_
    rintro e w' ⟨rfl, hB⟩
    replace HQ := HQ.on hB
    clear hB f0 f1 f2 f3
    replace HQ := HQ.new #[.int .i64 (hiOf (sqr a b)), .int .u64 (loOf (sqr a b))] 29
    go_upto_region 10 with (fail)
    generalize (World.alloc w' _) = V10 at HQ ⊢
    generalize w'.heap.size = km at HQ ⊢
    clear HX1 HX2 HX3 HX4 HY1 HY2 HT hg
    have hz := HZ.out
    have hll := HLL.out
    have hcs : (a.1 = b.1 ∧ a.2 = b.2 ∧ sgn (sqr a b) = 0) ∨ (a.1 = b.1 ∧ ¬ a.2 = b.2 ∧ sgn (sqr a b) = 1) ∨ (¬ a.1 = b.1 ∧ sgn (sqr a b) = 1) := by
      by_cases h1 : a.1 = b.1
      · by_cases h2 : a.2 = b.2
        · exact .inl ⟨h1, h2, sgn_zero.2 (hz.2 (Prod.ext h1 h2))⟩
        · refine .inr (.inl ⟨h1, h2, ?_⟩)
          have : sqr a b ≠ 0 := fun e => h2 (congrArg Prod.snd (hz.1 e))
          unfold sgn; rw [if_neg (by omega), if_neg (by omega)]
      · refine .inr (.inr ⟨h1, ?_⟩)
        have : sqr a b ≠ 0 := fun e => h1 (congrArg Prod.fst (hz.1 e))
        unfold sgn; rw [if_neg (by omega), if_neg (by omega)]
    clear hz hll HZ HLL
    have hsg := HSG.out
    clear HSG
    rcases hcs with ⟨h1, h2, h3⟩ | ⟨h1, h2, h3⟩ | ⟨h1, h3⟩
    · rw [h3] at hsg
      have HSG := Lib.hid hsg
      have e1 : (a.1 == b.1) = true := by simpa using h1
      have e2 : (a.2 == b.2) = true := by simpa using h2
      clear hsg h1 h2 h3
      go_region_held3 (fun W => W.cell? ⟨w.heap.size, 0, none⟩ = some (.int .i64 a.1) ∧ W.cell? ⟨w.heap.size, 1, none⟩ = some (.int .i64 a.2) ∧ W.cell? ⟨g1, 0, none⟩ = some (.int .i64 b.1) ∧ W.cell? ⟨g1, 1, none⟩ = some (.int .i64 b.2) ∧ W.cell? ⟨kx, 0, none⟩ = some (.int .i64 (hiOf (crs a b c))) ∧ W.cell? ⟨kx, 1, none⟩ = some (.int .u64 (loOf (crs a b c))) ∧ W.cell? ⟨ks, 0, none⟩ = some (.int .i64 (hiOf (crs a b c))) ∧ W.cell? ⟨ks, 1, none⟩ = some (.int .u64 (loOf (crs a b c))) ∧ W.cell? ⟨kn, 0, none⟩ = some (.int .i64 (hiOf (sqr a b))) ∧ W.cell? ⟨kn, 1, none⟩ = some (.int .u64 (loOf (sqr a b))) ∧ W.cell? ⟨km, 0, none⟩ = some (.int .i64 (hiOf (sqr a b))) ∧ W.cell? ⟨km, 1, none⟩ = some (.int .u64 (loOf (sqr a b)))) (first | exact Hold.rd6 (by assumption) | exact Hold.rd6 (Hold.drew (by assumption))) ((go_at_call 24; (with_reducible refine (HSG.out _).mono ?_); rintro e w' ⟨rfl, hB⟩; have HS' := Hold.on (by first | assumption | exact Hold.drew (by assumption)) hB))
      go_wp2
      go_ret
      exact ⟨rfl, HS'.1⟩
    · rw [h3] at hsg
      have HSG := Lib.hid hsg
      have e1 : (a.1 == b.1) = true := by simpa using h1
      have e2 : (a.2 == b.2) = false := by simpa using h2
      clear hsg h1 h2 h3
      go_region_held3 (fun W => W.cell? ⟨w.heap.size, 0, none⟩ = some (.int .i64 a.1) ∧ W.cell? ⟨w.heap.size, 1, none⟩ = some (.int .i64 a.2) ∧ W.cell? ⟨g1, 0, none⟩ = some (.int .i64 b.1) ∧ W.cell? ⟨g1, 1, none⟩ = some (.int .i64 b.2) ∧ W.cell? ⟨kx, 0, none⟩ = some (.int .i64 (hiOf (crs a b c))) ∧ W.cell? ⟨kx, 1, none⟩ = some (.int .u64 (loOf (crs a b c))) ∧ W.cell? ⟨ks, 0, none⟩ = some (.int .i64 (hiOf (crs a b c))) ∧ W.cell? ⟨ks, 1, none⟩ = some (.int .u64 (loOf (crs a b c))) ∧ W.cell? ⟨kn, 0, none⟩ = some (.int .i64 (hiOf (sqr a b))) ∧ W.cell? ⟨kn, 1, none⟩ = some (.int .u64 (loOf (sqr a b))) ∧ W.cell? ⟨km, 0, none⟩ = some (.int .i64 (hiOf (sqr a b))) ∧ W.cell? ⟨km, 1, none⟩ = some (.int .u64 (loOf (sqr a b)))) (first | exact Hold.rd6 (by assumption) | exact Hold.rd6 (Hold.drew (by assumption))) ((go_at_call 24; (with_reducible refine (HSG.out _).mono ?_); rintro e w' ⟨rfl, hB⟩; have HS' := Hold.on (by first | assumption | exact Hold.drew (by assumption)) hB))
      go_wp2
      go_ret
      exact ⟨rfl, HS'.1⟩
    · rw [h3] at hsg
      have HSG := Lib.hid hsg
      have e1 : (a.1 == b.1) = false := by simpa using h1
      clear hsg h1 h3
      go_region_held3 (fun W => W.cell? ⟨w.heap.size, 0, none⟩ = some (.int .i64 a.1) ∧ W.cell? ⟨w.heap.size, 1, none⟩ = some (.int .i64 a.2) ∧ W.cell? ⟨g1, 0, none⟩ = some (.int .i64 b.1) ∧ W.cell? ⟨g1, 1, none⟩ = some (.int .i64 b.2) ∧ W.cell? ⟨kx, 0, none⟩ = some (.int .i64 (hiOf (crs a b c))) ∧ W.cell? ⟨kx, 1, none⟩ = some (.int .u64 (loOf (crs a b c))) ∧ W.cell? ⟨ks, 0, none⟩ = some (.int .i64 (hiOf (crs a b c))) ∧ W.cell? ⟨ks, 1, none⟩ = some (.int .u64 (loOf (crs a b c))) ∧ W.cell? ⟨kn, 0, none⟩ = some (.int .i64 (hiOf (sqr a b))) ∧ W.cell? ⟨kn, 1, none⟩ = some (.int .u64 (loOf (sqr a b))) ∧ W.cell? ⟨km, 0, none⟩ = some (.int .i64 (hiOf (sqr a b))) ∧ W.cell? ⟨km, 1, none⟩ = some (.int .u64 (loOf (sqr a b)))) (first | exact Hold.rd6 (by assumption) | exact Hold.rd6 (Hold.drew (by assumption))) ((go_at_call 24; (with_reducible refine (HSG.out _).mono ?_); rintro e w' ⟨rfl, hB⟩; have HS' := Hold.on (by first | assumption | exact Hold.drew (by assumption)) hB))
      go_wp2
      go_ret
      exact ⟨rfl, HS'.1⟩
end Go.Proofs.Ytmoppjkfdhfmoaa.geoAreas
