/- The contract of the document's own answer: the sum of many, one after the other. -/
import Derived.Test.YtchhhaiokpecjaaDoorRefB
import Derived.Deep.LoopGhost
namespace Go.Proofs.YtchhhaiokpecjaaDoor
open Go.RowKit

/-- Known pairs of the call's own, and one element of the caller's list. -/
def Tot (w : World) (L : List (Nat × Int × Int)) (q q' : Addr) (p p' : Int) (W : World) : Prop :=
  Own w L W ∧ q.block < w.heap.size ∧ q'.block < w.heap.size ∧ W.cell? q = some (.int .i64 p) ∧ W.cell? q' = some (.int .u64 p')
section
variable {w W W' : World} {L : List (Nat × Int × Int)} {q q' : Addr} {p p' : Int}
theorem Tot.on (h : Tot w L q q' p p' W) (hb : Below W.heap.size W W') : Tot w L q q' p p' W' := by
  obtain ⟨h1, h2, h3, h4, h5⟩ := h
  have hs := h1.1.1.size
  exact ⟨h1.on hb, h2, h3, (hb.cell (by omega)).trans h4, (hb.cell (by omega)).trans h5⟩
theorem Tot.drew (h : Tot w L q q' p p' W) : Tot w L q q' p p' W.drew := ⟨h.1.drew, h.2⟩
theorem Tot.new (h : Tot w L q q' p p' W) (a b : Int) : Tot w ((W.heap.size, a, b) :: L) q q' p p' (W.alloc (Obj.cells #[.int .i64 a, .int .u64 b] 25)) := by
  obtain ⟨h1, h2, h3, h4, h5⟩ := h
  have hs := h1.1.1.size
  have hb : Below W.heap.size W (W.alloc (Obj.cells #[.int .i64 a, .int .u64 b] 25)) := (Below.refl _ _).alloc (Nat.le_refl _) _
  exact ⟨h1.new a b, h2, h3, (hb.cell (by omega)).trans h4, (hb.cell (by omega)).trans h5⟩
theorem Tot.newDrew (h : Tot w L q q' p p' W) (a b : Int) : Tot w ((W.heap.size, a, b) :: L) q q' p p' (W.drew.alloc (Obj.cells #[.int .i64 a, .int .u64 b] 25)) := h.drew.new a b
theorem Tot.store {g : Nat} {a b : Int} (h : Tot w ((g, a, b) :: L) q q' p p' W) (x y : Int) : Tot w ((g, x, y) :: L) q q' p p' ((W.setCell ⟨g, 0, none⟩ (.int .i64 x)).setCell ⟨g, 1, none⟩ (.int .u64 y)) := by
  obtain ⟨h1, h2, h3, h4, h5⟩ := h
  have hg : w.heap.size ≤ g := h1.2.2 _ (List.mem_cons_self ..)
  have hb : Below w.heap.size W ((W.setCell ⟨g, 0, none⟩ (.int .i64 x)).setCell ⟨g, 1, none⟩ (.int .u64 y)) := ((Below.refl _ W).setCell hg _).setCell hg _
  exact ⟨h1.store x y, h2, h3, (hb.cell h2).trans h4, (hb.cell h3).trans h5⟩
theorem Tot.own (h : Tot w L q q' p p' W) : Own w L W := h.1
theorem Tot.cells {g : Nat} {a b : Int} (h : Tot w L q q' p p' W) (m : (g, a, b) ∈ L) : W.cell? ⟨g, 0, none⟩ = some (.int .i64 a) ∧ W.cell? ⟨g, 1, none⟩ = some (.int .u64 b) ∧ W.cell? q = some (.int .i64 p) ∧ W.cell? q' = some (.int .u64 p') :=
  ⟨(h.1.1.look m).1, (h.1.1.look m).2, h.2.2.2.1, h.2.2.2.2⟩
theorem Own.tail {e : Nat × Int × Int} (h : Own w (e :: L) W) : Own w L W := ⟨h.1.sub fun _ he => List.mem_cons_of_mem _ he, h.2.1.of_cons, fun _ he => h.2.2 _ (List.mem_cons_of_mem _ he)⟩
end

set_option maxRecDepth 100000 in
set_option maxHeartbeats 2000000 in
theorem ref_total (ps : List (Int × Int)) (A : Option Addr) (cap : Nat) (w : World) (hn : ps.length ≤ maxLen) (hr : Pairs w w.heap.size A ps) (hwf : ∀ p ∈ ps, Wf p.1 p.2) :
    Calls Tryd.prog 20 #[.slice A ps.length cap] w fun e w' => e = .returned (.tuple #[.agg #[.int .i64 (tH ps), .int .u64 (tL ps)], .int .i64 (tE ps)]) ∧ Below w.heap.size w w' := by
  unfold maxLen at hn
  go_enter Tryd.func20, Tryd.ntmps20
  go_wp2_with fail
  have HS := ((Own.refl w).new 0 0).new' 0 0 (n := w.heap.size + 1) (by simp)
  generalize ((w.alloc _).alloc _) = W at HS ⊢
  obtain ⟨g2, hg2⟩ : ∃ g, w.heap.size = g := ⟨_, rfl⟩
  generalize w.heap.size + 1 = g4 at HS ⊢
  rw [hg2] at HS ⊢
  have hG := Lib.hid hg2
  clear hg2
  go_loopg [5] ps.length (fun k i wr => ∃ (n : Nat) (s : Int × Int), n ≤ ps.length ∧ k = ps.length - n ∧ i = .int .i64 n ∧ totFrom (ps.drop n) s = totFrom ps (0, 0) ∧ Wf s.1 s.2 ∧ Own w [(g4, s.1, s.2), (g2, 0, 0)] wr)
  case atStart => exact ⟨0, (0, 0), Nat.zero_le _, rfl, rfl, rfl, by unfold Wf; simp, HS⟩
  case round =>
    obtain ⟨k, ⟨s1, s2⟩, hk, hgk, rfl, htot, hws, HB⟩ := hrel
    simp only at hws HB
    have hgk' := Lib.hid hgk
    clear hgk HS
    by_cases hlt : k < ps.length
    · obtain ⟨ad, rfl, hadb, hc⟩ := hr (by omega)
      have hp : ps[k]? = some ps[k] := List.getElem?_eq_getElem hlt
      obtain ⟨c0, c1⟩ := hc k _ hp
      have hbw := HB.1.1
      have d0 : wr.cell? (ad.add (k * 2)) = some (.int .i64 ps[k].1) := (hbw.cell (by rw [block_of_add]; exact hadb)).trans c0
      have d1 : wr.cell? ⟨(ad.add (k * 2)).block, (ad.add (k * 2)).off + 1, none⟩ = some (.int .u64 ps[k].2) := by
        have := (hbw.cell (p := (ad.add (k * 2)).add 1) (by rw [block_of_add, block_of_add]; exact hadb)).trans c1
        simpa [Addr.add] using this
      have hwp : Wf ps[k].1 ps[k].2 := hwf _ (List.getElem_mem hlt)
      have hdrop : ps.drop k = ps[k] :: ps.drop (k + 1) := List.drop_eq_getElem_cons hlt
      clear c0 c1 hc hr hp hwf hbw
      generalize ps[k] = p at *
      obtain ⟨p1, p2⟩ := p
      simp only at d0 d1 hwp
      have HT : Tot w [(g4, s1, s2), (g2, 0, 0)] (ad.add (k * 2)) ⟨(ad.add (k * 2)).block, (ad.add (k * 2)).off + 1, none⟩ p1 p2 wr := ⟨HB, by rw [block_of_add]; exact hadb, by show (ad.add (k * 2)).block < _; rw [block_of_add]; exact hadb, d0, d1⟩
      rw [hdrop] at htot
      have hT := Lib.hid htot
      have HC := Lib.hid (fun W => ref_add s1 s2 p1 p2 hws hwp W)
      clear htot hdrop hws hwp HB
      have b0 : (0 : Int) ≤ (k : Int) := by omega
      have b1 : (k : Int) < (ps.length : Int) := by omega
      obtain ⟨q1, q2, -, -⟩ := HT.cells (g := g4) (a := s1) (b := s2) (by simp)
      go_upto_region 5 with (fail)
      go_cut [6, 7] (fun s6 s7 wx => ∃ g6, s6 = .pointer (some ⟨g6, 0, none⟩) ∧ s7 = .int .i64 (aE s1 s2 p1 p2) ∧ Own w [(g6, aH s1 s2 p1 p2, aL s1 s2 p1 p2), (g4, s1, s2), (g2, 0, 0)] wx)
      case first =>
        go_region_held3 (fun W => W.cell? ⟨g4, 0, none⟩ = some (.int .i64 s1) ∧ W.cell? ⟨g4, 1, none⟩ = some (.int .u64 s2) ∧ W.cell? (ad.add (k * 2)) = some (.int .i64 p1) ∧ W.cell? ⟨(ad.add (k * 2)).block, (ad.add (k * 2)).off + 1, none⟩ = some (.int .u64 p2))
          ((first
            | exact Tot.cells (by assumption) (by simp)
            | exact Tot.cells (Tot.drew (by assumption)) (by simp)
            | exact Tot.cells (Tot.newDrew (by assumption) 0 0) (by simp)
            | exact Tot.cells (Tot.new (by assumption) _ _) (by simp)
            | exact Tot.cells (Tot.store (by assumption) _ _) (by simp)))
          ((go_at_call 16; refine (HC.out _).mono ?_; rintro e w' ⟨rfl, hB⟩; have HT' := Tot.on (by first | assumption | exact Tot.drew (by assumption) | exact Tot.new (by assumption) 0 0 | exact Tot.newDrew (by assumption) 0 0) hB; obtain ⟨z0, z1, z2, z3⟩ := HT'.1.head))
        all_goals
          go_wp2_with fail
          go_meet
          exact ⟨_, rfl, rfl, by first | exact Own.store (Tot.own (by assumption)) _ _ | exact Own.new (Tot.own (by assumption)) _ _⟩
      case rest =>
        obtain ⟨g6, rfl, rfl, HQ⟩ := hcut
        clear HT HC q1 q2
        obtain ⟨e0, e1, e2, e3⟩ := HQ.head
        obtain ⟨r0, r1⟩ := HQ.fz (g := g4) (a := s1) (b := s2) (by simp)
        obtain ⟨t0, t1⟩ := HQ.fz (g := g2) (a := 0) (b := 0) (by simp)
        obtain ⟨u0', u1'⟩ := HQ.1.look (g := g2) (a := 0) (b := 0) (by simp)
        obtain ⟨v0', v1'⟩ := HQ.1.look (g := g4) (a := s1) (b := s2) (by simp)
        have hB := HQ.1.1
        have hge : w.heap.size ≤ g2 := HQ.2.2 (g2, 0, 0) (by simp)
        cases hf : pFit s1 s2 p1 p2
        · have E1 : aE s1 s2 p1 p2 = 3 := by unfold aE; rw [hf]; rfl
          have e : totFrom ps (0, 0) = none := by rw [← hT.out]; simp only [totFrom, hf, Bool.false_eq_true, if_false]
          have HE := Lib.hid e
          rw [E1]
          clear e E1 hT hf
          go_wp2
          refine bodyPost_ret (v := .tuple #[.agg #[.int .i64 0, .int .u64 0], .int .i64 3]) ?_ rfl ⟨?_, ?_⟩
          · simp [results, Tryd.results20, go_sem, u0', u1', World.cell?_setCell_other, World.cell?_setCell_same']
          · unfold tH tL tE; rw [HE.out]
          · exact (hB.setCell hge _).setCell hge _
        · have E1 : aE s1 s2 p1 p2 = 0 := by unfold aE; rw [hf]; rfl
          have E2 : aH s1 s2 p1 p2 = pHi s1 s2 p1 p2 := by unfold aH; rw [hf]; rfl
          have E3 : aL s1 s2 p1 p2 = pLo s2 p2 := by unfold aL; rw [hf]; rfl
          have e : totFrom (ps.drop (k + 1)) (pHi s1 s2 p1 p2, pLo s2 p2) = totFrom ps (0, 0) := by rw [← hT.out]; simp only [totFrom, hf, if_true]
          have HE := Lib.hid e
          rw [E1]
          rw [E2] at e0 HQ
          rw [E3] at e1 HQ
          clear e E1 E2 E3 hT hf
          go_wp2
          go_roundg (ps.length - (k + 1))
          case measure => rw [hgk'.out]; omega
          case rel => exact ⟨k + 1, (pHi s1 s2 p1 p2, pLo s2 p2), by omega, rfl, by go_num, HE.out, plus_wf, HQ.tail.store _ _⟩
    · obtain rfl : k = ps.length := by omega
      have e : totFrom ps (0, 0) = some (s1, s2) := by rw [← htot, List.drop_length]; rfl
      have HE := Lib.hid e
      obtain ⟨e0, e1, e2, e3⟩ := HB.head
      obtain ⟨t0, t1⟩ := HB.fz (g := g2) (a := 0) (b := 0) (by simp)
      obtain ⟨u0', u1'⟩ := HB.1.look (g := g2) (a := 0) (b := 0) (by simp)
      have hB := HB.1.1
      have hge : w.heap.size ≤ g2 := HB.2.2 (g2, 0, 0) (by simp)
      clear htot e hr hwf hws
      go_wp2
      refine bodyPost_ret (v := .tuple #[.agg #[.int .i64 s1, .int .u64 s2], .int .i64 0]) ?_ rfl ⟨?_, ?_⟩
      · simp [results, Tryd.results20, go_sem, u0', u1', World.cell?_setCell_other, World.cell?_setCell_same']
      · unfold tH tL tE; rw [HE.out]
      · exact (hB.setCell hge _).setCell hge _
end Go.Proofs.YtchhhaiokpecjaaDoor
