/- The contracts of the program's sums of 128-bit integers: Sub, Total, Add. -/
import Derived.Test.YtjlnjjmomohpaaaGreatCalls
import Derived.Deep.DeepMust
namespace Go.Proofs.YtjlnjjmomohpaaaGreat
open Go.RowKit

theorem bcell {W w1 : World} (hb : Below W.heap.size W w1) : (∀ b o, b < W.heap.size → w1.cell? ⟨b, o, none⟩ = W.cell? ⟨b, o, none⟩) ∧ (∀ b o, b < W.heap.size → w1.frozen? ⟨b, o, none⟩ = W.frozen? ⟨b, o, none⟩) :=
 ⟨fun b o h => hb.cell (p := ⟨b, o, none⟩) h, fun b o h => hb.frozen (p := ⟨b, o, none⟩) h⟩

set_option maxHeartbeats 400000 in
theorem sub_any (h l h' l' : Int) (wf : Wf h l) (wf' : Wf h' l') (w : World) :
  Calls Tryz.prog 192 #[.agg #[.int .i64 h, .int .u64 l], .agg #[.int .i64 h', .int .u64 l']] w fun e w' => e = .returned (.tuple #[.agg #[.int .i64 (bH h l h' l'), .int .u64 (bL h l h' l')], .int .i64 (bE h l h' l')]) ∧ Below w.heap.size w w' := by
 have hc := fun W => minus_any h l h' l' wf wf' W
 have HC := Lib.hid hc
 clear hc wf wf'
 cases hb : mFit h l h' l'
 ·have HG : Hid (bH h l h' l' = 0 ∧ bL h l h' l' = 0 ∧ bE h l h' l' = 3) := by unfold Hid bH bL bE; rw [hb]; exact ⟨rfl, rfl, rfl⟩
  go_enter Tryz.func192, Tryz.ntmps192
  go_wp2_with (go_at_call 196; go_must (refine (HC.out _).mono ?_; rintro e w' ⟨rfl, hB⟩; obtain ⟨hcl, hfr⟩ := bcell hB; have hz : w.heap.size + 1 + 1 < w'.heap.size := (by have := hB.size; simp only [World.size_alloc] at this; omega); have hBw : Below w.heap.size w w' := Below.trans (((((Below.refl _ _).alloc (Nat.le_refl _) _).alloc (by simp) _).alloc (by simp; omega) _)) (hB.mono (by simp only [World.size_alloc]; omega))))
  refine bodyPost_ret (v := .tuple #[.agg #[.int .i64 0, .int .u64 0], .int .i64 3]) ?_ rfl ⟨?_, ?_⟩
  ·simp [results, Tryz.results192, go_sem, hcl, hz, World.cell?_setCell_other, World.cell?_setCell_same']
  ·rw [HG.out.1, HG.out.2.1, HG.out.2.2]
  ·go_grown
 ·have HG : Hid (bH h l h' l' = mHi h l h' l' ∧ bL h l h' l' = mLo l l' ∧ bE h l h' l' = 0) := by unfold Hid bH bL bE; rw [hb]; exact ⟨rfl, rfl, rfl⟩
  go_enter Tryz.func192, Tryz.ntmps192
  go_wp2_with (go_at_call 196; go_must (refine (HC.out _).mono ?_; rintro e w' ⟨rfl, hB⟩; obtain ⟨hcl, hfr⟩ := bcell hB; have hz : w.heap.size + 1 + 1 < w'.heap.size := (by have := hB.size; simp only [World.size_alloc] at this; omega); have hBw : Below w.heap.size w w' := Below.trans (((((Below.refl _ _).alloc (Nat.le_refl _) _).alloc (by simp) _).alloc (by simp; omega) _)) (hB.mono (by simp only [World.size_alloc]; omega))))
  refine bodyPost_ret (v := .tuple #[.agg #[.int .i64 (mHi h l h' l'), .int .u64 (mLo l l')], .int .i64 0]) ?_ rfl ⟨?_, ?_⟩
  ·simp [results, Tryz.results192, go_sem, hcl, hz, World.cell?_setCell_other, World.cell?_setCell_same']
  ·rw [HG.out.1, HG.out.2.1, HG.out.2.2]
  ·go_grown

def Pairs (w : World) (B : Nat) (A : Option Addr) (ps : List (Int × Int)) : Prop :=
 0 < ps.length → ∃ ad, A = some ad ∧ ad.block < B ∧ ∀ k p, ps[k]? = some p → w.cell? (ad.add (k * 2)) = some (.int .i64 p.1) ∧ w.cell? ((ad.add (k * 2)).add 1) = some (.int .u64 p.2)

theorem block_of_add (a : Addr) (n : Nat) : (a.add n).block = a.block := by unfold Addr.add; split <;> rfl
theorem blk_cell {w : World} {g : Nat} {t : TypeId} {cs : Array Value} (h : w.heap[g]? = some (.cells cs t (0, 0))) (i : Nat) : w.cell? ⟨g, i, none⟩ = cs[i]? := cell_of_row w g i cs t (0, 0) h
theorem blk_frozen {w : World} {g : Nat} {t : TypeId} {cs : Array Value} (h : w.heap[g]? = some (.cells cs t (0, 0))) (i : Nat) : w.frozen? ⟨g, i, none⟩ = false := by
 simp [World.frozen?, h]
theorem blk_lt {w : World} {g : Nat} {o : Obj} (h : w.heap[g]? = some o) : g < w.heap.size := by
 rcases Nat.lt_or_ge g w.heap.size with hlt | hge
 ·exact hlt
 ·rw [Array.getElem?_eq_none hge] at h; cases h
theorem blk_alloc {w : World} {g : Nat} {o : Obj} (h : w.heap[g]? = some o) (o' : Obj) : (w.alloc o').heap[g]? = some o := (Below.heap_alloc w o' g (blk_lt h)).trans h

theorem pair_facts {w : World} {g : Nat} {t : TypeId} {a b : Value} (h : w.heap[g]? = some (.cells #[a, b] t (0, 0))) :
  (w.cell? ⟨g, 0, none⟩ = some a ∧ w.cell? ⟨g, 1, none⟩ = some b ∧ w.frozen? ⟨g, 0, none⟩ = false ∧ w.frozen? ⟨g, 1, none⟩ = false) ∧
  (∀ o, (w.alloc o).cell? ⟨g, 0, none⟩ = some a) ∧ (∀ o, (w.alloc o).cell? ⟨g, 1, none⟩ = some b) ∧ (∀ o, (w.alloc o).frozen? ⟨g, 0, none⟩ = false) ∧ (∀ o, (w.alloc o).frozen? ⟨g, 1, none⟩ = false) :=
 ⟨⟨blk_cell h 0, blk_cell h 1, blk_frozen h 0, blk_frozen h 1⟩, fun o => blk_cell (blk_alloc h o) 0, fun o => blk_cell (blk_alloc h o) 1, fun o => blk_frozen (blk_alloc h o) 0, fun o => blk_frozen (blk_alloc h o) 1⟩

theorem set_pair {w : World} {g : Nat} {t : TypeId} {a b : Value} (h : w.heap[g]? = some (.cells #[a, b] t (0, 0))) (x y : Value) :
  ((w.setCell ⟨g, 0, none⟩ x).setCell ⟨g, 1, none⟩ y).heap[g]? = some (.cells #[x, y] t (0, 0)) := by
 simp [World.setCell, Array.getElem?_modify, h]
theorem set_far {w : World} {g k : Nat} (hk : k ≠ g) (x y : Value) :
  ((w.setCell ⟨g, 0, none⟩ x).setCell ⟨g, 1, none⟩ y).heap[k]? = w.heap[k]? :=
 (Below.heap_setCell _ _ _ k hk).trans (Below.heap_setCell _ _ _ k hk)

set_option maxHeartbeats 400000 in
theorem total_any (ps : List (Int × Int)) (A : Option Addr) (cap : Nat) (w : World) (hn : ps.length ≤ maxLen) (hr : Pairs w w.heap.size A ps) (hwf : ∀ p ∈ ps, Wf p.1 p.2) :
  Calls Tryz.prog 134 #[.slice A ps.length cap] w fun e w' => e = .returned (.tuple #[.agg #[.int .i64 (tH ps), .int .u64 (tL ps)], .int .i64 (tE ps)]) ∧ Below w.heap.size w w' := by
 unfold maxLen at hn
 go_enter Tryz.func134, Tryz.ntmps134
 go_wp2
 go_loopw [11] (fun i wr => ∃ (k : Nat) (s : Int × Int), k ≤ ps.length ∧ i = .int .i64 k ∧ totFrom (ps.drop k) s = totFrom ps (0, 0) ∧ Wf s.1 s.2 ∧ wr.heap[w.heap.size]? = some (.cells #[.int .i64 0, .int .u64 0] 67 (0, 0)) ∧ wr.heap[w.heap.size + 1]? = some (.cells #[.int .i64 s.1, .int .u64 s.2] 215 (0, 0)) ∧ Below w.heap.size w wr) (fun i _ => ps.length - (intOf i).toNat)
 case atStart =>
  refine ⟨0, (0, 0), Nat.zero_le _, rfl, rfl, by unfold Wf; simp, ?_, ?_, by go_grown⟩
  ·exact blk_alloc (heap_alloc_new w _) _
  ·have h3 := heap_alloc_new (w.alloc (Obj.cells #[Value.int IntKind.i64 0, Value.int IntKind.u64 0] 67)) (Obj.cells #[Value.int IntKind.i64 0, Value.int IntKind.u64 0] 215)
   simp only [World.size_alloc] at h3
   exact h3
 case round =>
  obtain ⟨k, s, hk, rfl, htot, hws, hb0, hb1, hB⟩ := hrel
  by_cases hlt : k < ps.length
  ·obtain ⟨ad, rfl, hadb, hc⟩ := hr (by omega)
   have hp : ps[k]? = some ps[k] := List.getElem?_eq_getElem hlt
   obtain ⟨c0, c1⟩ := hc k _ hp
   have d0 : wr.cell? (ad.add (k * 2)) = some (.int .i64 ps[k].1) := (hB.cell (by rw [block_of_add]; exact hadb)).trans c0
   have d1 : wr.cell? ⟨(ad.add (k * 2)).block, (ad.add (k * 2)).off + 1, none⟩ = some (.int .u64 ps[k].2) := by
    have := (hB.cell (p := (ad.add (k * 2)).add 1) (by rw [block_of_add, block_of_add]; exact hadb)).trans c1
    simpa [Addr.add] using this
   have hwp : Wf ps[k].1 ps[k].2 := hwf _ (List.getElem_mem hlt)
   have hdrop : ps.drop k = ps[k] :: ps.drop (k + 1) := List.drop_eq_getElem_cons hlt
   clear c0 c1 hc hr hp hwf
   generalize ps[k] = p at *
   obtain ⟨p1, p2⟩ := p
   obtain ⟨s1, s2⟩ := s
   simp only at d0 d1 hwp hws hb1
   obtain ⟨⟨f0, f1, fz0, fz1⟩, -⟩ := pair_facts hb0
   obtain ⟨⟨g0, g1, gz0, gz1⟩, -⟩ := pair_facts hb1
   have hz := blk_lt hb1
   have hc := fun W => plus_any s1 s2 p1 p2 hws hwp W
   have HC := Lib.hid hc
   rw [hdrop] at htot
   have HT := Lib.hid htot
   have H0 := Lib.hid hb0
   have H1 := Lib.hid hb1
   clear hc hws hwp hdrop htot hb0 hb1
   cases hb : pFit s1 s2 p1 p2
   all_goals
    go_wp2_with (go_at_call 165; go_must (refine (HC.out _).mono ?_; rintro e w' ⟨rfl, hB2⟩; have K0 := Lib.hid ((hB2.block _ (by simp only [World.size_alloc]; omega)).trans (blk_alloc H0.out _)); have K1 := Lib.hid ((hB2.block _ (by simp only [World.size_alloc]; omega)).trans (blk_alloc H1.out _)); obtain ⟨⟨f0, f1, fz0, fz1⟩, f0', f1', fz0', fz1'⟩ := pair_facts K0.out; obtain ⟨⟨g0, g1, gz0, gz1⟩, g0', g1', gz0', gz1'⟩ := pair_facts K1.out; have hBw : Below w.heap.size w w' := Below.trans (hB.alloc hB.size _) (hB2.mono (by simp only [World.size_alloc]; omega)); have hz2 : w.heap.size + 1 < w'.heap.size := by (have := hB2.size; simp only [World.size_alloc] at this; omega)))
   ·have e : totFrom ps (0, 0) = none := by rw [← HT.out]; simp only [totFrom, hb, Bool.false_eq_true, if_false]
    refine bodyPost_ret (v := .tuple #[.agg #[.int .i64 0, .int .u64 0], .int .i64 3]) ?_ rfl ⟨?_, ?_⟩
    ·simp [results, Tryz.results134, go_sem, *, World.cell?_setCell_other, World.cell?_setCell_same']
    ·unfold tH tL tE; rw [e]
    ·go_grown
   ·have e : totFrom (ps.drop (k + 1)) (pHi s1 s2 p1 p2, pLo s2 p2) = totFrom ps (0, 0) := by rw [← HT.out]; simp only [totFrom, hb, if_true]
    refine ⟨⟨k + 1, (pHi s1 s2 p1 p2, pLo s2 p2), by omega, by go_num, e, plus_wf, blk_alloc ((set_far (by omega) _ _).trans K0.out) _, blk_alloc (set_pair K1.out _ _) _, ?_⟩, by simp [intOf]; omega⟩
    go_grown
  ·obtain rfl : k = ps.length := by omega
   obtain ⟨s1, s2⟩ := s
   have e : totFrom ps (0, 0) = some (s1, s2) := by rw [← htot, List.drop_length]; rfl
   have HE := Lib.hid e
   obtain ⟨⟨f0, f1, fz0, fz1⟩, -⟩ := pair_facts hb0
   obtain ⟨⟨g0, g1, gz0, gz1⟩, -⟩ := pair_facts hb1
   have hz := blk_lt hb1
   clear htot e hb0 hb1 hr hwf hws
   go_wp2
   refine bodyPost_ret (v := .tuple #[.agg #[.int .i64 s1, .int .u64 s2], .int .i64 0]) ?_ rfl ⟨?_, ?_⟩
   ·simp [results, Tryz.results134, go_sem, *, World.cell?_setCell_other, World.cell?_setCell_same']
   ·unfold tH tL tE; rw [HE.out]
   ·go_grown

end Go.Proofs.YtjlnjjmomohpaaaGreat

namespace Go.Proofs.YtjlnjjmomohpaaaGreat
open Go.RowKit

def Has (w : World) (L : List (Nat × Int × Int)) (W : World) : Prop :=
 Below w.heap.size w W ∧ ∀ e ∈ L, W.heap[e.1]? = some (.cells #[.int .i64 e.2.1, .int .u64 e.2.2] 67 (0, 0))
section
variable {w W W' : World} {L : List (Nat × Int × Int)}
theorem Has.refl (w : World) : Has w [] w := ⟨Below.refl _ _, fun _ h => by cases h⟩
theorem Has.on (h : Has w L W) (hb : Below W.heap.size W W') : Has w L W' := ⟨h.1.trans (hb.mono h.1.size), fun e he => (hb.block _ (blk_lt (h.2 e he))).trans (h.2 e he)⟩
theorem Has.drew (h : Has w L W) : Has w L W.drew := ⟨h.1.drew, h.2⟩
theorem Has.drewN (h : Has w L W) (n : Nat) : Has w L (W.drewN n) := ⟨⟨h.1.os, h.1.tape, h.1.output, h.1.size, h.1.block⟩, h.2⟩
theorem Has.alloc (h : Has w L W) (o : Obj) : Has w L (W.alloc o) := ⟨h.1.alloc h.1.size _, fun e he => blk_alloc (h.2 e he) o⟩
theorem Has.new (h : Has w L W) (a b : Int) : Has w ((W.heap.size, a, b) :: L) (W.alloc (Obj.cells #[.int .i64 a, .int .u64 b] 67)) :=
 ⟨h.1.alloc h.1.size _, fun e he => by
  rcases List.mem_cons.1 he with rfl | he
  ·exact heap_alloc_new _ _
  ·exact blk_alloc (h.2 e he) _⟩
theorem Has.new' (h : Has w L W) (a b : Int) {n : Nat} (hn : n = W.heap.size) : Has w ((n, a, b) :: L) (W.alloc (Obj.cells #[.int .i64 a, .int .u64 b] 67)) := by
 subst hn; exact h.new a b
theorem Has.sub {L' : List (Nat × Int × Int)} (h : Has w L W) (hs : ∀ e ∈ L', e ∈ L) : Has w L' W := ⟨h.1, fun e he => h.2 e (hs e he)⟩
theorem Has.look (h : Has w L W) {g : Nat} {a b : Int} (hm : (g, a, b) ∈ L) : W.cell? ⟨g, 0, none⟩ = some (.int .i64 a) ∧ W.cell? ⟨g, 1, none⟩ = some (.int .u64 b) :=
 ⟨blk_cell (h.2 _ hm) 0, blk_cell (h.2 _ hm) 1⟩
end
end Go.Proofs.YtjlnjjmomohpaaaGreat

namespace Go.Proofs.YtjlnjjmomohpaaaGreat
open Go.RowKit

def Hold (w : World) (L : List (Nat × Array Value × TypeId)) (W : World) : Prop :=
 Below w.heap.size w W ∧ (∀ e ∈ L, W.heap[e.1]? = some (.cells e.2.1 e.2.2 (0, 0)) ∧ w.heap.size ≤ e.1) ∧ L.Pairwise (fun a b => b.1 < a.1)
section
variable {w W W' : World} {L L' : List (Nat × Array Value × TypeId)}
theorem Hold.refl (w : World) : Hold w [] w := ⟨Below.refl _ w, (fun _ h => by cases h), List.Pairwise.nil⟩
theorem Hold.on (h : Hold w L W) (hb : Below W.heap.size W W') : Hold w L W' := ⟨h.1.trans (hb.mono h.1.size), (fun e he => ⟨(hb.block _ (blk_lt (h.2.1 e he).1)).trans (h.2.1 e he).1, (h.2.1 e he).2⟩), h.2.2⟩
theorem Hold.drew (h : Hold w L W) : Hold w L W.drew := ⟨h.1.drew, h.2⟩
theorem Hold.drewN (h : Hold w L W) (n : Nat) : Hold w L (W.drewN n) := ⟨⟨h.1.os, h.1.tape, h.1.output, h.1.size, h.1.block⟩, h.2⟩
theorem Hold.alloc (h : Hold w L W) (o : Obj) : Hold w L (W.alloc o) := ⟨h.1.alloc h.1.size _, (fun e he => ⟨blk_alloc (h.2.1 e he).1 o, (h.2.1 e he).2⟩), h.2.2⟩
theorem Hold.new (h : Hold w L W) (cs : Array Value) (t : TypeId) : Hold w ((W.heap.size, cs, t) :: L) (W.alloc (Obj.cells cs t (0, 0))) :=
 ⟨(h.alloc _).1, (fun e he => by
  rcases List.mem_cons.1 he with rfl | he
  ·exact ⟨heap_alloc_new _ _, h.1.size⟩
  ·exact (h.alloc _).2.1 e he), List.Pairwise.cons (fun e he => blk_lt (h.2.1 e he).1) h.2.2⟩
theorem Hold.new' (h : Hold w L W) (cs : Array Value) (t : TypeId) {n : Nat} (hn : n = W.heap.size) : Hold w ((n, cs, t) :: L) (W.alloc (Obj.cells cs t (0, 0))) := by
 subst hn; exact h.new cs t
theorem Hold.sub (h : Hold w L W) (hs : L'.Sublist L) : Hold w L' W := ⟨h.1, (fun e he => h.2.1 e (hs.subset he)), h.2.2.sublist hs⟩
theorem Hold.tail {e : Nat × Array Value × TypeId} (h : Hold w (e :: L) W) : Hold w L W := h.sub (List.sublist_cons_self e L)
theorem Hold.bare (h : Hold w L W) : Hold w [] W := h.sub (List.nil_sublist L)
section
variable {g : Nat} {cs : Array Value} {t : TypeId}
theorem Hold.cell (h : Hold w L W) (hm : (g, cs, t) ∈ L) (i : Nat) : W.cell? ⟨g, i, none⟩ = cs[i]? := blk_cell (h.2.1 _ hm).1 i
theorem Hold.frozen (h : Hold w L W) (hm : (g, cs, t) ∈ L) (i : Nat) : W.frozen? ⟨g, i, none⟩ = false := blk_frozen (h.2.1 _ hm).1 i
theorem Hold.lt (h : Hold w L W) (hm : (g, cs, t) ∈ L) : g < W.heap.size := blk_lt (h.2.1 _ hm).1
theorem Hold.set (h : Hold w ((g, cs, t) :: L) W) (i : Nat) (x : Value) : Hold w ((g, cs.setIfInBounds i x, t) :: L) (W.setCell ⟨g, i, none⟩ x) := by
 have hg := h.2.1 _ List.mem_cons_self
 refine ⟨h.1.setCell hg.2 _, fun e he => ?_, ?_⟩
 ·rcases List.mem_cons.1 he with rfl | he
  ·refine ⟨?_, hg.2⟩
   simp [World.setCell, Array.getElem?_modify, hg.1]
  ·have hlt := (List.pairwise_cons.1 h.2.2).1 e he
   have := h.2.1 e (List.mem_cons_of_mem _ he)
   exact ⟨(Below.heap_setCell _ _ _ e.1 (Nat.ne_of_lt hlt)).trans this.1, this.2⟩
 ·exact List.Pairwise.cons (List.pairwise_cons.1 h.2.2).1 (List.pairwise_cons.1 h.2.2).2
theorem Hold.set2 {a b : Value} (h : Hold w ((g, #[a, b], t) :: L) W) (x y : Value) : Hold w ((g, #[x, y], t) :: L) ((W.setCell ⟨g, 0, none⟩ x).setCell ⟨g, 1, none⟩ y) := (h.set 0 x).set 1 y
theorem Hold.swap {e : Nat × Array Value × TypeId} (h : Hold w (e :: (g, cs, t) :: L) W) (i : Nat) (x : Value) : Hold w (e :: (g, cs.setIfInBounds i x, t) :: L) (W.setCell ⟨g, i, none⟩ x) := by
 have hs := h.tail.set i x
 have hp := List.pairwise_cons.1 h.2.2
 have hne : e.1 ≠ g := (Nat.ne_of_lt (hp.1 _ List.mem_cons_self)).symm
 refine ⟨hs.1, fun e' he => ?_, List.Pairwise.cons (fun e' he => ?_) hs.2.2⟩
 ·rcases List.mem_cons.1 he with rfl | he
  ·have := h.2.1 e' List.mem_cons_self
   exact ⟨(Below.heap_setCell _ _ _ e'.1 hne).trans this.1, this.2⟩
  ·exact hs.2.1 e' he
 ·rcases List.mem_cons.1 he with rfl | he
  ·exact hp.1 (g, cs, t) List.mem_cons_self
  ·exact hp.1 e' (List.mem_cons_of_mem _ he)
theorem Hold.swap2 {e : Nat × Array Value × TypeId} {a b : Value} (h : Hold w (e :: (g, #[a, b], t) :: L) W) (x y : Value) : Hold w (e :: (g, #[x, y], t) :: L) ((W.setCell ⟨g, 0, none⟩ x).setCell ⟨g, 1, none⟩ y) := (h.swap 0 x).swap 1 y
theorem Hold.pt (h : Hold w L W) {x y : Value} (hm : (g, #[x, y], t) ∈ L) : W.cell? ⟨g, 0, none⟩ = some x ∧ W.cell? ⟨g, 1, none⟩ = some y :=
 ⟨h.cell hm 0, h.cell hm 1⟩
theorem Hold.fz (h : Hold w L W) {x y : Value} (hm : (g, #[x, y], t) ∈ L) : W.frozen? ⟨g, 0, none⟩ = false ∧ W.frozen? ⟨g, 1, none⟩ = false :=
 ⟨h.frozen hm 0, h.frozen hm 1⟩
theorem Hold.top {x y : Value} (h : Hold w ((g, #[x, y], t) :: L) W) : W.cell? ⟨g, 0, none⟩ = some x ∧ W.cell? ⟨g, 1, none⟩ = some y ∧ W.frozen? ⟨g, 0, none⟩ = false ∧ W.frozen? ⟨g, 1, none⟩ = false :=
 ⟨h.cell List.mem_cons_self 0, h.cell List.mem_cons_self 1, h.frozen List.mem_cons_self 0, h.frozen List.mem_cons_self 1⟩
end
end
end Go.Proofs.YtjlnjjmomohpaaaGreat
