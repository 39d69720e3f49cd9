/- A ring is sound just if its area is above 0 and each two edges have in common just what a sound ring lets them. -/
import Derived.Test.YtjlnjjmomohpaaaGreatSimple
import Derived.Test.YtjlnjjmomohpaaaGreatRingP
import Derived.Test.YtjlnjjmomohpaaaGreatRefSide
import Derived.Test.YtjlnjjmomohpaaaGreatGeoAns
namespace Go.Proofs.YtjlnjjmomohpaaaGreat

theorem apart_ends {a b c d : Int × Int} (h : meet a b c d = 0) : a ≠ c ∧ a ≠ d ∧ b ≠ c ∧ b ≠ d := by
 have h2 : meet b a c d = 0 := by rw [meet_turn]; exact h
 exact ⟨not_corner (on_left c d) h, not_corner (on_right c d) h, not_corner (on_left c d) h2, not_corner (on_right c d) h2⟩
theorem fitB_iff {ps : List (Int × Int)} {i j : Nat} : fitB ps i j = true ↔ meet (nx ps i) (nx ps (i + 1)) (nx ps j) (nx ps (j + 1)) = if flw i j ps.length then 1 else 0 := by
 unfold fitB fitV
 rw [decide_eq_true_iff, meetN_eq]
theorem area_small {ps : List (Int × Int)} (h : ps.length < 3) : area ps = 0 := by
 unfold area
 have hp := fun i => nx_per ps i
 match hl : ps.length with
 |0 => rfl
 |1 =>
  have e : nx ps 1 = nx ps 0 := by have := hp 0; rwa [hl] at this
  simp only [sumTo, Nat.zero_add, e]
  unfold crs0; grind
 |2 =>
  have e : nx ps 2 = nx ps 0 := by have := hp 0; rwa [hl] at this
  simp only [sumTo, Nat.zero_add, Nat.reduceAdd, e]
  unfold crs0; grind
 |n + 3 => omega
theorem area_three {ps : List (Int × Int)} (h : ps.length = 3) : area ps = crs0 (nx ps 0) (nx ps 1) + crs0 (nx ps 1) (nx ps 2) + crs0 (nx ps 2) (nx ps 0) := by
 have e : nx ps 3 = nx ps 0 := by have := nx_per ps 0; rwa [h] at this
 unfold area
 rw [h]
 simp only [sumTo, Nat.zero_add, Nat.reduceAdd, e]
 omega
theorem nx_last {ps : List (Int × Int)} (h : 0 < ps.length) : nx ps (ps.length - 1 + 1) = nx ps 0 := by
 rw [show ps.length - 1 + 1 = 0 + ps.length by omega, nx_per]
theorem sound_fit {ps : List (Int × Int)} : Sound ps ↔ 0 < area ps ∧ AllFit ps := by
 constructor
 ·intro hs
  obtain ⟨h3, ha, hall⟩ := sound_iff.1 hs
  refine ⟨ha, fun i j hij hj => fitB_iff.2 ?_⟩
  obtain ⟨-, h1, h0⟩ := hall i j hij hj
  by_cases hf : flw i j ps.length = true
  ·rw [if_pos hf]
   unfold flw at hf
   rw [decide_eq_true_iff] at hf
   exact h1 ((adj_lt h3 hij hj).2 (by omega))
  ·rw [if_neg hf]
   unfold flw at hf
   rw [decide_eq_true_iff] at hf
   exact h0 (fun h => hf (by have := (adj_lt h3 hij hj).1 h; omega))
 ·rintro ⟨ha, hf⟩
  have h3 : 3 ≤ ps.length := by
   refine Nat.le_of_not_lt fun h => ?_
   rw [area_small h] at ha
   omega
  have far : ∀ i j, i < j → j < ps.length → j - i ≠ 1 → j - i ≠ ps.length - 1 → meet (nx ps i) (nx ps (i + 1)) (nx ps j) (nx ps (j + 1)) = 0 := fun i j hij hj h1 h2 => by
   have := fitB_iff.1 (hf i j hij hj)
   rwa [if_neg (by unfold flw; rw [decide_eq_true_iff]; omega)] at this
  refine sound_iff.2 ⟨h3, ha, fun i j hij hj => ⟨fun e => ?_, fun h => ?_, fun h => ?_⟩⟩
  ·by_cases h4 : ps.length = 3
   ·rw [area_three h4] at ha
    have hc : (i = 0 ∧ j = 1) ∨ (i = 0 ∧ j = 2) ∨ (i = 1 ∧ j = 2) := by omega
    rcases hc with ⟨rfl, rfl⟩ | ⟨rfl, rfl⟩ | ⟨rfl, rfl⟩
    ·rw [e] at ha; unfold crs0 at ha; grind
    ·rw [e] at ha; unfold crs0 at ha; grind
    ·rw [e] at ha; unfold crs0 at ha; grind
   ·have h0 : 0 < ps.length := by omega
    by_cases h5 : j - i = 1
    ·obtain rfl : j = i + 1 := by omega
     by_cases h6 : i = 0
     ·subst h6
      have := far 1 (ps.length - 1) (by omega) (by omega) (by omega) (by omega)
      rw [nx_last h0] at this
      exact (apart_ends this).2.1 e.symm
     ·have := far (i - 1) (i + 1) (by omega) hj (by omega) (by omega)
      rw [show i - 1 + 1 = i by omega] at this
      exact (apart_ends this).2.2.1 e
    ·by_cases h6 : j - i = ps.length - 1
     ·obtain rfl : i = 0 := by omega
      obtain rfl : j = ps.length - 1 := by omega
      have := far 0 (ps.length - 2) (by omega) (by omega) (by omega) (by omega)
      rw [show ps.length - 2 + 1 = ps.length - 1 by omega] at this
      exact (apart_ends this).2.1 e
     ·exact (apart_ends (far i j hij hj h5 h6)).1 e
  ·have := fitB_iff.1 (hf i j hij hj)
   rwa [if_pos (by unfold flw; rw [decide_eq_true_iff]; have := (adj_lt h3 hij hj).1 h; omega)] at this
  ·refine far i j hij hj (fun h1 => h ((adj_lt h3 hij hj).2 (by omega))) (fun h1 => h ((adj_lt h3 hij hj).2 (by omega)))
end Go.Proofs.YtjlnjjmomohpaaaGreat

namespace Go.Proofs.YtjlnjjmomohpaaaGreat
open Go.RowKit Go.Shelf

attribute [local go_sem] Oper.semAt_some

def wordsAt (ps : List (Int × Int)) (i : Nat) : Int × Int := (hiOf (rimS ps i), loOf (rimS ps i))
theorem fitW_of {x y : Int} (hx : InR x) (hy : InR y) (hz : InR (x + y)) : pFit (hiOf x) (loOf x) (hiOf y) (loOf y) = true ∧ pHi (hiOf x) (loOf x) (hiOf y) (loOf y) = hiOf (x + y) ∧ pLo (loOf x) (loOf y) = loOf (x + y) := by
 obtain ⟨e1, e2, e3⟩ := add_of hx hy hz
 unfold aH aL aE at *
 by_cases h : pFit (hiOf x) (loOf x) (hiOf y) (loOf y) = true
 ·rw [if_pos h] at e1 e2; exact ⟨h, e1, e2⟩
 ·rw [if_neg h] at e3; omega
theorem rimS_inR {ps : List (Int × Int)} (hg : gdL ps = true) (h0 : 0 < ps.length) (i : Nat) : InR (rimS ps i) := by
 have := crs0_lim (nx_gd hg h0 i) (nx_gd hg h0 (i + 1))
 unfold rimS InR
 omega
theorem tot_rim {ps : List (Int × Int)} (hg : gdL ps = true) (hn : ps.length ≤ 128) : ∀ (m k : Nat), k + m = ps.length → totFrom (((List.finRange ps.length).drop k).map (fun i => wordsAt ps i.1)) (hiOf (sumTo (rimS ps) k), loOf (sumTo (rimS ps) k)) = some (hiOf (area ps), loOf (area ps))
 |0, k, h => by
  rw [List.drop_of_length_le (by simp; omega)]
  have : k = ps.length := by omega
  subst this
  rfl
 |m + 1, k, h => by
  have hk : k < ps.length := by omega
  rw [List.drop_eq_getElem_cons (by simpa using hk), List.map_cons]
  obtain ⟨f1, f2, f3⟩ := fitW_of (rim_inR hg hn (Nat.le_of_lt hk)) (rimS_inR hg (by omega) k) (show InR (sumTo (rimS ps) (k + 1)) from rim_inR hg hn (by omega))
  unfold totFrom wordsAt
  simp only [List.getElem_finRange, Fin.val_cast]
  rw [if_pos f1, f2, f3]
  exact tot_rim hg hn m (k + 1) (by omega)
def wordsL (ps : List (Int × Int)) : List (Int × Int) := (List.finRange ps.length).map (fun i => wordsAt ps i.1)
theorem tot_words {ps : List (Int × Int)} (hg : gdL ps = true) (hn : ps.length ≤ 128) : tH (wordsL ps) = hiOf (area ps) ∧ tL (wordsL ps) = loOf (area ps) ∧ tE (wordsL ps) = 0 := by
 have h := tot_rim hg hn ps.length 0 (by omega)
 have h0 : (hiOf (sumTo (rimS ps) 0), loOf (sumTo (rimS ps) 0)) = ((0 : Int), (0 : Int)) := by unfold sumTo; decide
 rw [h0, List.drop_zero] at h
 unfold tH tL tE wordsL
 rw [h]
 exact ⟨rfl, rfl, rfl⟩
theorem words_wf {ps : List (Int × Int)} (hg : gdL ps = true) : ∀ q ∈ wordsL ps, Wf q.1 q.2 := by
 intro q hq
 unfold wordsL at hq
 obtain ⟨i, -, rfl⟩ := List.mem_map.1 hq
 exact wf_of (rimS_inR hg (by have := i.2; omega) _)

def flatI : List (Int × Int) → List Value
 |[] => []
 |p :: ps => .int .i64 p.1 :: .int .u64 p.2 :: flatI ps
theorem flatI_append : ∀ (ps qs : List (Int × Int)), flatI (ps ++ qs) = flatI ps ++ flatI qs
 |[], qs => rfl
 |p :: ps, qs => by simp only [List.cons_append, flatI, flatI_append ps qs]
theorem flatI_get : ∀ (ps : List (Int × Int)) (k : Nat), (flatI ps)[k * 2]? = (ps[k]?).map (fun p => .int .i64 p.1) ∧ (flatI ps)[k * 2 + 1]? = (ps[k]?).map (fun p => .int .u64 p.2)
 |[], k => by simp [flatI]
 |p :: ps, 0 => by simp [flatI]
 |p :: ps, k + 1 => by
  have h := flatI_get ps k
  rw [show (k + 1) * 2 = k * 2 + 1 + 1 by omega]
  simpa [flatI] using h
theorem infoI : (Tryz.prog.info? 67).map (fun i => (i.zero, i.size, i.bytes)) = some (some (.agg #[.int .i64 0, .int .u64 0]), 2, 16) := by kernel_rfl
theorem own_pairs {w : World} {B : Nat} {v : Value} {ps : List (Int × Int)} (h : w.ownsRow B 67 2 v ps.length (flatI ps)) : ∃ A cap, v = .slice A ps.length cap ∧ Pairs w w.heap.size A ps := by
 have hc := fun g (hg : v.ownBlock = some g) => h.cells hg
 obtain ⟨hl, ⟨rfl, h0⟩ | ⟨g, cap, cur, rfl, hb, hg, -⟩⟩ := h
 ·exact ⟨none, 0, by rw [h0], fun hp => absurd hp (by omega)⟩
 ·refine ⟨some ⟨g, 0, none⟩, cap, rfl, fun _ => ⟨_, rfl, blk_lt hg, fun k p hp => ?_⟩⟩
  have hc := hc g rfl
  obtain ⟨g0, g1⟩ := flatI_get ps k
  rw [hp] at g0 g1
  exact ⟨hc _ _ g0, by rw [Go.Deep.add_add]; exact hc _ _ g1⟩
def Grows (w : World) (g2 g4 : Nat) (qs : List (Int × Int)) (W : World) : Prop :=
 ∃ v, Hold w [(g4, #[v], 185), (g2, #[.int .i64 0, .int .u64 0], 67)] W ∧ W.ownsRow (g2 + 1) 67 2 v qs.length (flatI qs)
theorem row_on {B e sz n : Nat} {X Y : World} {v : Value} {xs : List Value} (h : X.ownsRow B e sz v n xs) (hb : Below X.heap.size X Y) : Y.ownsRow B e sz v n xs := by
 refine ⟨h.1, h.2.imp id ?_⟩
 rintro ⟨g, cap, cur, hv, hb', hh, hrest⟩
 exact ⟨g, cap, cur, hv, hb', (hb.block _ (blk_lt hh)).trans hh, hrest⟩
theorem Hold.grown {w X Y : World} {L : List (Nat × Array Value × TypeId)} {row : Option Nat} (h : Hold w L X) (hg : X.grownBy Y row) (hr : ∀ k, row = some k → w.heap.size ≤ k ∧ ∀ e ∈ L, e.1 ≠ k) : Hold w L Y :=
 ⟨h.1.grown hg h.1.size (fun k e => (hr k e).1), fun e he => ⟨(hg.block _ (blk_lt (h.2.1 e he).1) (fun e' => (hr _ e'.symm).2 e he rfl)).trans (h.2.1 e he).1, (h.2.1 e he).2⟩, h.2.2⟩
theorem row_far {w W : World} {v u : Value} {n g2 g4 : Nat} {xs : List Value} (hrow : W.ownsRow (g2 + 1) 67 2 v n xs) (h2 : w.heap.size ≤ g2) (hH : Hold w [(g4, #[u], 185), (g2, #[.int .i64 0, .int .u64 0], 67)] W) :
  ∀ k, v.ownBlock = some k → w.heap.size ≤ k ∧ ∀ e ∈ [(g4, #[u], 185), (g2, #[Value.int .i64 0, .int .u64 0], 67)], e.1 ≠ k := by
 intro k hk
 rcases hrow.2 with ⟨rfl, -⟩ | ⟨g, cap, cur, rfl, hb, hg, -⟩
 ·cases hk
 ·obtain rfl : g = k := by simpa [Value.ownBlock] using hk
  refine ⟨by omega, fun e he e' => ?_⟩
  simp only [List.mem_cons, List.not_mem_nil, or_false] at he
  rcases he with rfl | rfl
  ·simp only at e'
   subst e'
   have := (hH.2.1 _ (.head _)).1
   rw [hg] at this
   cases this
  ·simp only at e'
   omega
theorem row_keeps {X Y : World} {B e sz n : Nat} {v : Value} {xs : List Value} (h : X.ownsRow B e sz v n xs) (hg : X.grownBy Y v.ownBlock) : KeepsOthers X Y := KeepsOthers.of_grownBy hg (fun j o e' ho => by
 rcases h.2 with ⟨rfl, -⟩ | ⟨g, cap, cur, rfl, hb, hh, -⟩
 ·cases e'
 ·obtain rfl : g = j := by simpa [Value.ownBlock] using e'
  rw [hh] at ho; cases ho; rfl)
theorem row_still {X Y : World} {B n₀ sz n : Nat} {v : Value} {xs : List Value} (h : X.ownsRow B 67 sz v n xs) (hB : n₀ ≤ B) (hn : n₀ ≤ X.heap.size) (hg : X.grownBy Y v.ownBlock) : Kept n₀ X Y := by
 rcases h.2 with ⟨rfl, -⟩ | ⟨g, cap, cur, rfl, hb, hh, -⟩
 ·exact Kept.of_below ((Below.refl X.heap.size X).grown hg (Nat.le_refl _) (fun k e => by cases e)) hn
 ·refine ⟨(Below.refl n₀ X).grown hg hn (fun k e => by
   obtain rfl : g = k := by simpa [Value.ownBlock] using e
   omega), fun k cs t fz hk ht => (hg.block k (blk_lt hk) (fun e => ?_)).trans hk⟩
  obtain rfl : k = g := by simpa [Value.ownBlock] using e
  rw [hh] at hk
  cases hk
  rcases ht with ht | ht <;> exact absurd ht (by decide)
theorem row_set {W : World} {B e sz n g : Nat} {v : Value} {xs : List Value} {cs : Array Value} {t : TypeId} (h : W.ownsRow B e sz v n xs) (hg : W.heap[g]? = some (Obj.cells cs t (0, 0))) (ht : t ≠ e) (u : Value) : (W.setCell ⟨g, 0, none⟩ u).ownsRow B e sz v n xs := by
 refine ⟨h.1, h.2.imp id ?_⟩
 rintro ⟨k, cap, cur, hv, hb, hh, hrest⟩
 exact ⟨k, cap, cur, hv, hb, (Below.heap_setCell _ _ _ k (fun e' => by
  simp only at e'
  subst e'
  rw [hh] at hg
  cases hg
  exact ht rfl)).trans hh, hrest⟩
theorem Grows.own {β : Type} {w : World} {g2 g4 B : Nat} (hB : w.heap.size ≤ B) (q : β → List (Int × Int)) : OwnFrom B (fun s W => Grows w g2 g4 (q s) W) := by
 rintro s X Y row ⟨v, h1, h2⟩ hg hr
 refine ⟨v, hold_own hB (fun (_ : Unit) => _) () X Y row h1 hg hr, h2.1, h2.2.imp id ?_⟩
 rintro ⟨g, cap, cur, hv, hb, hh, hrest⟩
 exact ⟨g, cap, cur, hv, hb, (hg.block _ (blk_lt hh) (fun e => by
  obtain ⟨-, o, ho, hc⟩ := hr _ e.symm
  rw [hh] at ho; cases ho; cases hc)).trans hh, hrest⟩
theorem Grows.on {w W W' : World} {g2 g4 : Nat} {qs : List (Int × Int)} (h : Grows w g2 g4 qs W) (hb : Below W.heap.size W W') : Grows w g2 g4 qs W' := by
 obtain ⟨v, h1, h2⟩ := h
 exact ⟨v, h1.on hb, row_on h2 hb⟩

set_option maxRecDepth 100000 in
set_option maxHeartbeats 1000000 in
theorem area_bad (ps : List (Int × Int)) (A : Option Addr) (cap : Nat) (hn : ps.length ≤ maxLen) (he : arE ps ≠ 0) (w : World) (hr : Pts w w.heap.size A ps) :
  Calls Tryz.prog 133 #[.slice A ps.length cap] w fun e w' => e = .returned (.tuple #[.agg #[.int .i64 0, .int .u64 0], .int .i64 (arE ps)]) ∧ Below w.heap.size w w' := by
 have HQ := (Hold.refl w).new #[.int .i64 0, .int .u64 0] 67
 have HN := Lib.hid hn
 by_cases h1 : 128 < ps.length
 ·have e1 : arE ps = 12 := by unfold arE; rw [if_pos h1]
  rw [e1]
  obtain ⟨n1, n2, -, -⟩ := HQ.top
  have HF := Lib.hid HQ.1
  clear HQ
  go_enter Tryz.func133, Tryz.ntmps133
  go_wp2
  refine bodyPost_ret (v := .tuple #[.agg #[.int .i64 0, .int .u64 0], .int .i64 12]) ?_ rfl ⟨rfl, HF.out⟩
  simp [results, Tryz.results133, go_sem]
 ·have hg : gdL ps = false := by
   cases h : gdL ps
   ·rfl
   ·unfold arE at he; rw [if_neg h1, h] at he; exact absurd rfl he
  have e1 : arE ps = 3 := by unfold arE; rw [if_neg h1, hg]; rfl
  rw [e1]
  have HA := Lib.hid (hr.on HQ.1)
  go_enter Tryz.func133, Tryz.ntmps133
  go_wp2_with fail
  go_at_call 162
  refine (good_any ps A cap _ HN.out HA.out).mono ?_
  rintro e w1 ⟨rfl, hB⟩
  replace HQ := HQ.on hB
  obtain ⟨k0, k1, k2, k3⟩ := HQ.top
  have HE := HQ.set2 (.int .i64 0) (.int .u64 0)
  obtain ⟨n1, n2, -, -⟩ := HE.top
  have HF := Lib.hid HE.1
  clear HE HQ hB
  rw [hg]
  go_wp2
  refine bodyPost_ret (v := .tuple #[.agg #[.int .i64 0, .int .u64 0], .int .i64 3]) ?_ rfl ⟨rfl, HF.out⟩
  simp [results, Tryz.results133, go_sem, n1, n2]

theorem cross_edge {ps : List (Int × Int)} (hg : gdL ps = true) (x : Fin ps.length) (W : World) :
  Calls Tryz.prog 164 #[.agg #[.int .i64 0, .int .i64 0], .agg #[.int .i64 (nx ps x.1).1, .int .i64 (nx ps x.1).2], .agg #[.int .i64 (nx ps (x.1 + 1)).1, .int .i64 (nx ps (x.1 + 1)).2]] W fun e w' =>
   e = .returned (.tuple #[.agg #[.int .i64 (wordsAt ps x.1).1, .int .u64 (wordsAt ps x.1).2], .int .i64 0]) ∧ Below W.heap.size W w' := by
 have h0 : 0 < ps.length := by have := x.2; omega
 have := Cross_good (0, 0) (nx ps x.1) (nx ps (x.1 + 1)) (gdL_three.2 ⟨by unfold Gd; omega, nx_gd hg h0 x.1, nx_gd hg h0 (x.1 + 1)⟩) W
 rw [crs0_crs] at this
 exact this
theorem two_cells (W : World) (t : TypeId) (a b : Value) (g : Nat) (hg : g = W.heap.size) : ∀ j u, [a, b][j]? = some u → (W.alloc (Obj.cells #[a, b] t (0, 0))).cell? ((⟨g, 0, none⟩ : Addr).add j) = some u := by
 intro j u hj
 subst hg
 have hnew := heap_alloc_new W (Obj.cells #[a, b] t (0, 0))
 match j, hj with
 |0, hj => simp at hj; subst hj; simp [Addr.add, blk_cell hnew]
 |1, hj => simp at hj; subst hj; simp [Addr.add, blk_cell hnew]

set_option maxRecDepth 100000 in
set_option maxHeartbeats 4000000 in
theorem area_good (ps : List (Int × Int)) (A : Option Addr) (cap : Nat) (he : arE ps = 0) (w : World) (hr : Pts w w.heap.size A ps) :
  Calls Tryz.prog 133 #[.slice A ps.length cap] w fun e w' => e = .returned (.tuple #[.agg #[.int .i64 (hiOf (area ps)), .int .u64 (loOf (area ps))], .int .i64 0]) ∧ Below w.heap.size w w' := by
 obtain ⟨hn, hg⟩ := arE_zero.1 he
 have HQ := (Hold.refl w).new #[.int .i64 0, .int .u64 0] 67
 have HA := Lib.hid (hr.on HQ.1)
 have HN := Lib.hid (show ps.length ≤ maxLen by unfold maxLen; omega)
 have hn2 : ¬ (128 : Int) < (ps.length : Int) := by omega
 refine (callsIn_wide (n := 8)).1 ?_
 refine callsIn_of_wp_marks Tryz.func133 rfl trivial ?_ rfl
 simp only [Tryz.ntmps133, List.size_toArray, List.length_cons, List.length_nil, Nat.reduceAdd, Nat.reduceSub, Array.replicate_succ, Array.replicate_zero, List.push_toArray, List.append_toArray, List.nil_append, List.cons_append]
 gi_wp2_with fail
 refine ⟨trivial, ?_⟩
 gi_at_call 162
 refine (callsIn_wide.2 (good_any ps A cap _ HN.out HA.out)).mono ?_
 rintro e w1 ⟨rfl, hB⟩
 replace HQ := HQ.on hB
 clear hB HA HN
 rw [hg]
 obtain ⟨i0, hi, hz0, hz1, hz2⟩ := info_parts infoI
 have hlt := HQ.lt (.head _)
 gi_wp2_with (first
  |(gi_at_make; refine wpListIn_make_own _ rfl _ _ 185 rfl (w.heap.size + 1) 67 i0 (.agg #[.int .i64 0, .int .u64 0]) 2 Tryz.underlying185 hi hz0 hz1 .i64 .i64 ps.length ps.length rfl rfl rfl (by rw [hz2]; omega) (by unfold maxLen; omega) (by omega) ?_; intro w2 hown2 hgrow2)
  |(refine ⟨trivial, ?_⟩; gi_at_call 163; refine (edges_in Fence.wide _ trivial rfl _ _ _ _).mono ?_; rintro e w' ⟨rfl, rfl⟩))
 have HH : Hold w [(w2.heap.size, #[.slice (some ⟨w1.heap.size, 0, none⟩) 0 ps.length], 185), (w.heap.size, #[.int .i64 0, .int .u64 0], 67)] (w2.alloc (Obj.cells #[.slice (some ⟨w1.heap.size, 0, none⟩) 0 ps.length] 185)) :=
  (HQ.on ((Below.refl _ w1).grown hgrow2 (Nat.le_refl _) (fun k e => by cases e))).new _ _
 have hsz : ((w2.alloc (Obj.cells #[.slice (some ⟨w1.heap.size, 0, none⟩) 0 ps.length] 185)).alloc (Obj.cells #[.slice A ps.length cap] 23)).heap.size = w2.heap.size + 1 + 1 := by simp
 have HI : Grows w w.heap.size w2.heap.size ([] : List (Int × Int)) ((w2.alloc (Obj.cells #[.slice (some ⟨w1.heap.size, 0, none⟩) 0 ps.length] 185)).alloc (Obj.cells #[.slice A ps.length cap] 23)) :=
  ⟨_, HH.alloc _, row_on hown2 (((Below.refl _ w2).alloc (Nat.le_refl _) _).alloc (by simp) _)⟩
 have hbx : ((w2.alloc (Obj.cells #[.slice (some ⟨w1.heap.size, 0, none⟩) 0 ps.length] 185)).alloc (Obj.cells #[.slice A ps.length cap] 23)).heap[w2.heap.size + 1]? = some (Obj.cells #[.slice A ps.length cap] 23 (0, 0)) := by
  have := heap_alloc_new (w2.alloc (Obj.cells #[.slice (some ⟨w1.heap.size, 0, none⟩) 0 ps.length] 185)) (Obj.cells #[.slice A ps.length cap] 23 (0, 0))
  rwa [World.size_alloc] at this
 have hsz1 : w.heap.size ≤ w2.heap.size := Nat.le_trans HQ.1.size hgrow2.size
 obtain ⟨W0, hW0⟩ : ∃ W0, ((w2.alloc (Obj.cells #[.slice (some ⟨w1.heap.size, 0, none⟩) 0 ps.length] 185)).alloc (Obj.cells #[.slice A ps.length cap] 23)) = W0 := ⟨_, rfl⟩
 rw [hW0] at hsz HI hbx ⊢
 have HB0 := HI.choose_spec.1.1
 clear hW0 HH hown2 hgrow2 HQ
 have HCR := Lib.hid (fun x W => cross_edge hg x W)
 refine wpIn_rangeFunc_ownH rfl (by omega) (gf := 181) (lb := #[.pointer (some ⟨w2.heap.size + 1, 0, none⟩)]) rfl trivial (enters_of Tryz.func181 (by kernel_rfl) rfl)
  (edges_stops Fence.wide 7 trivial rfl (by omega) (w2.heap.size + 1) ps A cap hn w W0 hr HB0 (by omega) hbx) Kept.trans (Kept.put (by omega)) (Below.refl _ _) (fun _ => rfl)
  (fun pre W => Grows w w.heap.size w2.heap.size (pre.map (fun i => wordsAt ps i.1)) W)
  (fun _ _ _ => False)
  (Grows.own (by omega) _)
  (fun _ _ _ _ _ hs _ _ => hs)
  HI
  (fun x a' W => ∃ Bx, W.heap[Bx]? = some (Obj.cells #[.int .i64 (nx ps x.1).1, .int .i64 (nx ps x.1).2, .int .i64 (nx ps (x.1 + 1)).1, .int .i64 (nx ps (x.1 + 1)).2] 76 (0, 0)) ∧ a' = { tmps := #[.slice A ps.length cap, undef, .pointer (some ⟨w.heap.size, 0, none⟩), .int .i64 0, .pointer (some ⟨w2.heap.size, 0, none⟩), undef, .pointer (some ⟨Bx, 0, none⟩), undef, undef, .bool false, .slice A ps.length cap, .int .i64 ps.length, .bool false, undef, .bool false, .slice A ps.length cap, .bool true, .bool false, undef, .slice A ps.length cap, .int .i64 ps.length, .slice (some ⟨w1.heap.size, 0, none⟩) 0 ps.length, .slice A ps.length cap, .func (.func 181) #[] #[.pointer (some ⟨w2.heap.size + 1, 0, none⟩)], .int .i64 (x.1 : Int), edV (nx ps x.1) (nx ps (x.1 + 1)), undef, undef, undef, undef, undef, undef, undef, undef, undef, undef, undef, undef, undef, undef, undef, undef, undef], defers := [] })
  (fun x a' _ X Y row hs hg hr => by
   obtain ⟨Bx, h1, h2⟩ := hs
   exact ⟨Bx, (hg.block _ (blk_lt h1) (fun e => by
    obtain ⟨-, o, ho, hc⟩ := hr _ e.symm
    rw [h1] at ho; cases ho; cases hc)).trans h1, h2⟩)
  ?assign ?body ?done ?stop
 case assign =>
  rintro l pre x W K hG hK
  unfold encE edV
  gi_wp2
  exact hK _ _ (KeepsFrom.of_below ((Below.refl _ W).alloc (Nat.le_refl _) _)) (Kept.of_below ((Below.refl _ W).alloc (Nat.le_refl _) _) hG.choose_spec.1.1.size) (hG.on ((Below.refl _ W).alloc (Nat.le_refl _) _)) ⟨W.heap.size, heap_alloc_new _ _, rfl⟩
 case body =>
  rintro l pre x a' W hl ⟨r, hr'⟩ ⟨v, hH, hrow⟩ ⟨Bx, hX, rfl⟩ hlt2
  have x0 := blk_cell hX 0
  have x1 := blk_cell hX 1
  have x2 := blk_cell hX 2
  have x3 := blk_cell hX 3
  simp only [List.getElem?_toArray, List.getElem?_cons_zero, List.getElem?_cons_succ] at x0 x1 x2 x3
  have HC := HCR.out x
  gi_wp2_with fail
  refine ⟨trivial, ?_⟩
  gi_at_call 164
  refine (CallsIn.inRound l (callsIn_wide.2 (HC W))).mono ?_
  rintro e w3 ⟨rfl, hB3⟩
  have hH3 := (hH.on hB3).new #[.int .i64 (wordsAt ps x.1).1, .int .u64 (wordsAt ps x.1).2] 67
  have hrow3 := row_on hrow (hB3.alloc hB3.size (Obj.cells #[.int .i64 (wordsAt ps x.1).1, .int .u64 (wordsAt ps x.1).2] 67 (0, 0)))
  have hW3 := hB3.alloc hB3.size (Obj.cells #[.int .i64 (wordsAt ps x.1).1, .int .u64 (wordsAt ps x.1).2] 67 (0, 0))
  have y0 := hH3.cell (.tail _ (.head _)) 0
  have y1 := hH3.cell (.head _) 0
  have y2 := hH3.cell (.head _) 1
  simp only [List.getElem?_toArray, List.getElem?_cons_zero, List.getElem?_cons_succ] at y0 y1 y2
  have hs3 : w.heap.size ≤ w3.heap.size := Nat.le_trans hH.1.size hB3.size
  have hpl : (pre.map (fun i => wordsAt ps i.1)).length ≤ 128 := by rw [List.length_map]; omega
  gi_wp2_with (gi_at_builtin; go_must (refine wpListIn_append_own _ rfl _ _ 185 rfl (w.heap.size + 1) 67 i0 (.agg #[.int .i64 0, .int .u64 0]) 2 16 Tryz.underlying185 hi hz0 hz1 hz2 rfl (by decide) v _ _ rfl (row_on hrow3 ((Below.refl _ _).alloc (Nat.le_refl _) _)) ⟨_, 0, none⟩ 1 1 [.int .i64 (wordsAt ps x.1).1, .int .u64 (wordsAt ps x.1).2] rfl rfl (two_cells _ _ _ _ _ (by simp)) (by simp [Value.oneCell']) (by unfold maxLen; omega) (by omega) (by simp; omega) ?_; intro v' w5 hown5 hgrow5 _; obtain ⟨g', cap', rfl⟩ := ownsRow_succ hown5; have hH5 := (hH3.alloc (Obj.cells #[.int .i64 (wordsAt ps x.1).1, .int .u64 (wordsAt ps x.1).2] 67 (0, 0))).tail.grown hgrow5 (row_far hrow (Nat.le_refl _) hH); have z0 := hH5.cell (.head _) 0; have z1 := hH5.frozen (.head _) 0; simp only [List.getElem?_toArray, List.getElem?_cons_zero] at z0))
  have hX4 : Below W.heap.size W ((w3.alloc (Obj.cells #[.int .i64 (wordsAt ps x.1).1, .int .u64 (wordsAt ps x.1).2] 67 (0, 0))).alloc (Obj.cells #[.int .i64 (wordsAt ps x.1).1, .int .u64 (wordsAt ps x.1).2] 67 (0, 0))) := hW3.alloc hW3.size _
  have hr4 := row_on hrow hX4
  have hb5 : w5.heap[w2.heap.size]? = some (Obj.cells #[v] 185 (0, 0)) := (hH5.2.1 _ (.head _)).1
  refine ⟨((KeepsFrom.of_below hX4).trans ((row_keeps hr4 hgrow5).from _)).trans ((KeepsOthers.setCell _ _ _).from _), ((Kept.of_below hX4 hH.1.size).trans (row_still hr4 (by omega) (by simp; omega) hgrow5)).trans (Kept.set hb5 (by decide) (by decide) (by omega) 0 _), _, hH5.set 0 _, ?_⟩
  have hown6 := row_set hown5 hb5 (by decide) (.slice (some ⟨g', 0, none⟩) (pre.length + 1) cap')
  simp only [List.length_map] at hown6
  simp only [List.map_append, List.length_append, flatI_append, List.length_map, List.map_cons, List.map_nil, List.length_cons, List.length_nil, flatI]
  exact hown6
 case done =>
  rintro D ys W hD rfl ⟨v, hH, hrow⟩ hK
  obtain ⟨A', cap', rfl, hP⟩ := own_pairs hrow
  obtain ⟨t1, t2, t3⟩ := tot_words hg hn
  have HT := Lib.hid (total_any (wordsL ps) A' cap' W (by unfold wordsL maxLen; rw [List.length_map, List.length_finRange]; omega) hP (words_wf hg))
  have hwl : (wordsL ps).length = ps.length := by unfold wordsL; simp
  rw [t1, t2, t3, hwl] at HT
  clear hP t1 t2 t3
  have y0 := hH.cell (.head _) 0
  simp only [List.getElem?_toArray, List.getElem?_cons_zero] at y0
  gi_wp2_with (refine ⟨trivial, ?_⟩; gi_at_call 134; go_must (with_reducible refine (callsIn_wide.2 HT.out).mono ?_; rintro e w3 ⟨rfl, hB3⟩; have hH3 := (hH.on hB3).tail; obtain ⟨z0, z1, z2, z3⟩ := hH3.top; skip))
  have HE := hH3.set2 (.int .i64 (hiOf (area ps))) (.int .u64 (loOf (area ps)))
  obtain ⟨n1, n2, -, -⟩ := HE.top
  have hK' := (KeepsOthers.setCell (w3.setCell ⟨w.heap.size, 0, none⟩ (.int .i64 (hiOf (area ps)))) ⟨w.heap.size, 1, none⟩ (.int .u64 (loOf (area ps)))).same D _ ((KeepsOthers.setCell w3 ⟨w.heap.size, 0, none⟩ (.int .i64 (hiOf (area ps)))).same D _ ((hB3.block D (blk_lt hK)).trans hK) rfl) rfl
  refine ⟨by simp, .inl ⟨_, _, rfl, run_takeDeferred hK', ?_⟩⟩
  have m1 := cell_kept n1 (grownBy_putObj' _ D (.deferred none)) (fun r e => by cases e; exact ⟨_, hK', rfl⟩)
  have m2 := cell_kept n2 (grownBy_putObj' _ D (.deferred none)) (fun r e => by cases e; exact ⟨_, hK', rfl⟩)
  refine ⟨.tuple #[.agg #[.int .i64 (hiOf (area ps)), .int .u64 (loOf (area ps))], .int .i64 0], ?_, rfl, HE.1.trans (belowK_b (w := w) (Nat.le_refl _) _ D _ _ (by omega) hK' rfl rfl)⟩
  simp [results, Tryz.f133, go_sem, m1, m2]
 case stop =>
  rintro D c pre W _ _ h _
  exact h.elim
theorem Area_any (ps : List (Int × Int)) (A : Option Addr) (cap : Nat) (hn : ps.length ≤ maxLen) (w : World) (hr : Pts w w.heap.size A ps) :
  Calls Tryz.prog 133 #[.slice A ps.length cap] w fun e w' => e = .returned (.tuple #[.agg #[.int .i64 (arH ps), .int .u64 (arL ps)], .int .i64 (arE ps)]) ∧ Below w.heap.size w w' := by
 unfold arH arL
 by_cases he : arE ps = 0
 ·rw [if_pos he, if_pos he, he]; exact area_good ps A cap he w hr
 ·rw [if_neg he, if_neg he]; exact area_bad ps A cap hn he w hr
end Go.Proofs.YtjlnjjmomohpaaaGreat

namespace Go.Proofs.YtjlnjjmomohpaaaGreat
open Go.RowKit

theorem cmp_pos {n : Int} (h : InR n) : (cmp (hiOf n) (loOf n) 0 0 ≤ 0) ↔ n ≤ 0 := by
 rw [cmp_sgn h]
 unfold sgn
 split <;> (try split) <;> omega

set_option maxRecDepth 100000 in
set_option maxHeartbeats 1000000 in
theorem Check_any (ps : List (Int × Int)) (A : Option Addr) (cap : Nat) (hn : ps.length ≤ maxLen) (w : World) (hr : Pts w w.heap.size A ps) :
  Calls Tryz.prog 101 #[.slice A ps.length cap] w fun e w' => e = .returned (.int .i64 (chE ps)) ∧ Below w.heap.size w w' := by
 have HA := Lib.hid (Area_any ps A cap hn w hr)
 by_cases he : arE ps = 0
 ·have hge := arE_zero.1 he
  have HP : Hid (∀ W, Below w.heap.size w W → Calls Tryz.prog 138 #[.slice A ps.length cap] W fun e w' => ∃ b, e = .returned (.bool b) ∧ (b = true ↔ AllFit ps) ∧ Below W.heap.size W w') :=
   Lib.hid (fun W hb => simple_any ps A cap hge.1 hge.2 W (hr.on hb))
  have h1 : arH ps = hiOf (area ps) := by unfold arH; rw [if_pos he]
  have h2 : arL ps = loOf (area ps) := by unfold arL; rw [if_pos he]
  have hR : InR (area ps) := rim_inR hge.2 hge.1 (Nat.le_refl _)
  have HSF := Lib.hid (sound_fit (ps := ps))
  have HC := Lib.hid (cmp_pos hR)
  have HS := Lib.hid (fun W => sign_any (hiOf (area ps)) (loOf (area ps)) W)
  rw [he, h1, h2] at HA
  generalize cmp (hiOf (area ps)) (loOf (area ps)) 0 0 = s at *
  by_cases hs : Sound ps
  ·have hv := chE_sound he hs
   obtain ⟨ha, hf⟩ := HSF.out.1 hs
   have h3 : ¬ s ≤ 0 := fun h => by have := HC.out.1 h; omega
   have hd := decide_eq_false h3
   have HF := Lib.hid hf
   clear hf hs hge hR
   rw [hv]
   go_enter Tryz.func101, Tryz.ntmps101
   go_wp2_with (first
    |(go_at_call 133; go_must (with_reducible refine (HA.out).mono ?_; rintro e w1 ⟨rfl, hB⟩; have hB1 := hB.alloc hB.size (Obj.cells #[.int .i64 (hiOf (area ps)), .int .u64 (loOf (area ps))] 67 (0, 0)); have hN := heap_alloc_new w1 (Obj.cells #[.int .i64 (hiOf (area ps)), .int .u64 (loOf (area ps))] 67 (0, 0)); have n0 := blk_cell hN 0; have n1 := blk_cell hN 1; simp only [List.getElem?_toArray, List.getElem?_cons_zero, List.getElem?_cons_succ] at n0 n1))
    |(go_at_call 137; go_must (with_reducible refine (HS.out _).mono ?_; rintro e w2 ⟨rfl, hB2⟩; have hB3 := hB1.trans (hB2.mono hB1.size)))
    |(go_at_call 138; go_must (with_reducible refine (HP.out _ hB3).mono ?_; rintro e w3 ⟨b, rfl, hb, hB4⟩; obtain rfl : b = true := hb.2 HF.out)))
   go_ret
   exact ⟨rfl, hB3.trans (hB4.mono hB3.size)⟩
  ·have hv := chE_unsound he hs
   have h3 : s ≤ 0 ∨ (¬ s ≤ 0 ∧ ¬ AllFit ps) := by
    by_cases h : s ≤ 0
    ·exact .inl h
    ·exact .inr ⟨h, fun hf => hs (HSF.out.2 ⟨Int.not_le.1 (fun h' => h (HC.out.2 h')), hf⟩)⟩
   clear hs hge hR
   rw [hv]
   rcases h3 with h3 | ⟨h3, h4⟩
   ·have hd := decide_eq_true h3
    go_enter Tryz.func101, Tryz.ntmps101
    go_wp2_with (first
     |(go_at_call 133; go_must (with_reducible refine (HA.out).mono ?_; rintro e w1 ⟨rfl, hB⟩; have hB1 := hB.alloc hB.size (Obj.cells #[.int .i64 (hiOf (area ps)), .int .u64 (loOf (area ps))] 67 (0, 0)); have hN := heap_alloc_new w1 (Obj.cells #[.int .i64 (hiOf (area ps)), .int .u64 (loOf (area ps))] 67 (0, 0)); have n0 := blk_cell hN 0; have n1 := blk_cell hN 1; simp only [List.getElem?_toArray, List.getElem?_cons_zero, List.getElem?_cons_succ] at n0 n1))
     |(go_at_call 137; go_must (with_reducible refine (HS.out _).mono ?_; rintro e w2 ⟨rfl, hB2⟩; have hB3 := hB1.trans (hB2.mono hB1.size))))
    go_ret
    exact ⟨rfl, hB3⟩
   ·have hd := decide_eq_false h3
    have HF := Lib.hid h4
    clear h4
    go_enter Tryz.func101, Tryz.ntmps101
    go_wp2_with (first
     |(go_at_call 133; go_must (with_reducible refine (HA.out).mono ?_; rintro e w1 ⟨rfl, hB⟩; have hB1 := hB.alloc hB.size (Obj.cells #[.int .i64 (hiOf (area ps)), .int .u64 (loOf (area ps))] 67 (0, 0)); have hN := heap_alloc_new w1 (Obj.cells #[.int .i64 (hiOf (area ps)), .int .u64 (loOf (area ps))] 67 (0, 0)); have n0 := blk_cell hN 0; have n1 := blk_cell hN 1; simp only [List.getElem?_toArray, List.getElem?_cons_zero, List.getElem?_cons_succ] at n0 n1))
     |(go_at_call 137; go_must (with_reducible refine (HS.out _).mono ?_; rintro e w2 ⟨rfl, hB2⟩; have hB3 := hB1.trans (hB2.mono hB1.size)))
     |(go_at_call 138; go_must (with_reducible refine (HP.out _ hB3).mono ?_; rintro e w3 ⟨b, rfl, hb, hB4⟩; obtain rfl : b = false := Bool.eq_false_iff.2 (fun h => absurd (hb.1 h) HF.out))))
    go_ret
    exact ⟨rfl, hB3.trans (hB4.mono hB3.size)⟩
 ·have h1 : arH ps = 0 := by unfold arH; rw [if_neg he]
  have h2 : arL ps = 0 := by unfold arL; rw [if_neg he]
  rw [h1, h2] at HA
  rw [chE_bad he]
  generalize arE ps = a at *
  go_enter Tryz.func101, Tryz.ntmps101
  go_wp2_with (go_at_call 133; go_must (with_reducible refine (HA.out).mono ?_; rintro e w1 ⟨rfl, hB⟩))
  go_ret
  exact ⟨rfl, hB.alloc hB.size _⟩
end Go.Proofs.YtjlnjjmomohpaaaGreat

namespace Go.Proofs.YtjlnjjmomohpaaaGreat
open Go.RowKit Go.Shelf

attribute [local go_sem] Oper.semAt_some

def SideBlk (w : World) (A : Option Addr) (n cap : Nat) (p : Int × Int) (g : Nat) (v : Int) (W : World) : Prop :=
 Hold w [(g + 1, #[.slice A n cap], 23), (g, #[.int .i64 v], 3), (w.heap.size + 1 + 1, #[.int .i64 0], 30), (w.heap.size + 1, #[.int .i64 0], 3), (w.heap.size, #[.int .i64 p.1, .int .i64 p.2], 56)] W
section
variable {w W W' : World} {A : Option Addr} {n cap g : Nat} {p : Int × Int} {v : Int}
theorem SideBlk.h (h : SideBlk w A n cap p g v W) : Hold w [(g + 1, #[.slice A n cap], 23), (g, #[.int .i64 v], 3), (w.heap.size + 1 + 1, #[.int .i64 0], 30), (w.heap.size + 1, #[.int .i64 0], 3), (w.heap.size, #[.int .i64 p.1, .int .i64 p.2], 56)] W := h
theorem SideBlk.on (h : SideBlk w A n cap p g v W) (hb : Below W.heap.size W W') : SideBlk w A n cap p g v W' := Hold.on (w := w) (W := W) h hb
end

end Go.Proofs.YtjlnjjmomohpaaaGreat
