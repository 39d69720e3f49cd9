/- Proved: for all plans p, windows w and numbers by of 8 bits the law QueryGrows answers true, and all read behind the call as before: a greater window finds what a smaller one finds, in its order, and the window round the territory finds all. No condition narrows the input. -/
import Derived.Test.YtoabooljgojoiabGreatQInd
import Derived.Test.YtoabooljgojoiabGreatGridV
import Derived.Test.YtoabooljgojoiabGreatOpenQ
/- The walk of the law QueryGrows. -/
namespace Go.Proofs.YtoabooljgojoiabGreat
open Go.RowKit

structure St (w : World) (b m1 m2 : Nat) (l' : List PV) (n : Int) (W : World) : Prop where
 below : Below w.heap.size w W
 rings : RingsOk W b m1 l' cellsQ
 idx : IdxS W b m1 m2 n (idsIn cellsQ (ringL l'))
 left : MapIs W m2 gv iv OkE (ownL l')
 own : OwnRs w l' W
 far : w.heap.size ≤ b
section
variable {w W W' : World} {b m1 m2 : Nat} {l' : List PV} {n n' : Int}
theorem St.blk (h : St w b m1 m2 l' n W) : ∃ d q v, W.heap[b]? = some (.cells #[.map (some m1), .map (some m2), d, (.int .i32 0), q, v, .int .i64 n] 78 (0, 0)) := h.idx.block
theorem St.grown (h : St w b m1 m2 l' n W) (hg : W.grownBy W' (some b)) (hi : IdxS W' b m1 m2 n' (idsIn cellsQ (ringL l'))) : St w b m1 m2 l' n' W' where
 below := h.below.grown hg h.below.size (fun k e => by obtain rfl := Option.some.inj e; exact h.far)
 rings := h.rings.but hg
 idx := hi
 left := h.left.kept hg (fun e => by
  obtain ⟨d, q, v, hb⟩ := h.blk
  obtain ⟨es, k, hm, -⟩ := h.left
  rw [Option.some.inj e, hb] at hm
  cases hm)
 own x hx := (h.own x hx).kept hg (.inr (by
  obtain ⟨d, q, v, hb⟩ := h.blk
  exact row_block (h.own x hx) hb (by decide)))
 far := h.far
theorem St.on (h : St w b m1 m2 l' n W) (hb : Below W.heap.size W W') : St w b m1 m2 l' n W' := h.grown (grown_below hb (some b)) (h.idx.on hb)
theorem St.count (h : St w b m1 m2 l' n W) : St w b m1 m2 l' (n + 1) (W.setCell ⟨b, 6, none⟩ (.int .i64 (n + 1))) := h.grown (set_grown _ _ _ _) h.idx.count
theorem St.hold (h : St w b m1 m2 l' n W) : ∃ d q v, Hold w [(b, #[.map (some m1), .map (some m2), d, (.int .i32 0), q, v, .int .i64 n], 78)] W := by
 obtain ⟨d, q, v, hb⟩ := h.blk
 exact ⟨d, q, v, h.below, fun e he => by
   obtain rfl := List.mem_singleton.1 he
   exact ⟨hb, h.far⟩, List.pairwise_singleton _ _⟩
end
theorem plan_sorted4 {o : List (Int × Int)} {l l' : List PV} (h : chkB o l = true) (hp : l'.map PV.par = l.map PV.par) : PlanQ o (l'.map PV.par) ∧ (l'.Pairwise fun a b => a.par.id < b.par.id) ∧ ∀ x ∈ l', NormP x.par.ring := by
 have hq := chkB_plan.1 h
 rw [← hp] at hq
 have h1 := hq.fine.1
 rw [List.pairwise_map] at h1
 exact ⟨hq, h1, fun x hx => hq.each x.par (List.mem_map_of_mem hx)⟩
theorem ref_good_new2 (ps : List (Int × Int)) (cap : Nat) (w W : World) (t : TypeId) (hn : ps.length ≤ maxLen) (hW : W = w.alloc (Obj.cells (flatP ps).toArray t (0, 0))) :
  Calls Tryz.prog 12 #[.slice (some ⟨w.heap.size, 0, none⟩) ps.length cap] W fun e w' => e = .returned (.bool (gdL ps)) ∧ Below (w.heap.size + 1) W w' := by
 subst hW
 have h := ref_good ps (some ⟨w.heap.size, 0, none⟩) cap _ hn (pts_of (heap_alloc_new w (Obj.cells (flatP ps).toArray t (0, 0))) (by simp only [World.size_alloc]; omega))
 simp only [World.size_alloc] at h
 exact h
theorem ref_good_two2 (a b : Int × Int) (cap : Nat) (w : World) (t : TypeId) :
  Calls Tryz.prog 12 #[.slice (some ⟨w.heap.size, 0, none⟩) 2 cap] (w.alloc (Obj.cells #[.int .i64 a.1, .int .i64 a.2, .int .i64 b.1, .int .i64 b.2] t (0, 0))) fun e w' => e = .returned (.bool (gdL [a, b])) ∧ Below (w.heap.size + 1) (w.alloc (Obj.cells #[.int .i64 a.1, .int .i64 a.2, .int .i64 b.1, .int .i64 b.2] t (0, 0))) w' :=
 ref_good_new2 [a, b] cap w _ t (by unfold maxLen; simp) rfl
set_option maxRecDepth 100000 in
set_option maxHeartbeats 1000000 in
theorem window_ok2 (L H : Int × Int) (w : World) :
  Calls Tryz.prog 5 #[.agg #[.int .i64 L.1, .int .i64 L.2, .int .i64 H.1, .int .i64 H.2]] w fun e w' => e = .returned (.int .i64 (wnE L H)) ∧ Below w.heap.size w w' := by
 have HQ := (Hold.refl w).new #[.int .i64 L.1, .int .i64 L.2, .int .i64 H.1, .int .i64 H.2] 30
 have HE : Hid (wnE L H = if gdL [L, H] = true then (if H.1 < L.1 ∨ H.2 < L.2 then 1 else 0) else 3) := rfl
 go_enter Tryz.func5, Tryz.ntmps5
 go_upto_region 1 with (fail)
 generalize (World.alloc _ _) = W1 at HQ ⊢
 obtain ⟨g0, hg0⟩ : ∃ g, w.heap.size = g := ⟨_, rfl⟩
 rw [hg0] at HQ ⊢
 have HG0 := Lib.hid hg0
 clear hg0
 obtain ⟨c0, c1, c2, c3⟩ := HQ.win (.head _)
 go_wp2_with fail
 go_at_call 12
 refine (ref_good_two2 L H _ _ _).mono ?_
 rintro e w1 ⟨rfl, hB⟩
 replace HQ := (HQ.alloc _).on (hB.mono (by simp only [World.size_alloc]; omega))
 clear hB c0 c1 c2 c3
 cases hg : gdL [L, H]
 ·rw [hg] at HE
  have HB := Lib.hid HQ.1
  clear HQ hg
  go_wp2
  go_ret
  rw [HE.out]
  exact ⟨rfl, HB.out⟩
 ·rw [hg, if_pos rfl] at HE
  obtain ⟨c0, c1, c2, c3⟩ := HQ.win (.head _)
  have HB := Lib.hid HQ.1
  clear HQ hg
  by_cases h1 : H.1 < L.1
  ·rw [if_pos (.inl h1)] at HE
   go_wp2
   go_ret
   rw [HE.out]
   exact ⟨rfl, HB.out⟩
  ·by_cases h2 : H.2 < L.2
   ·rw [if_pos (.inr h2)] at HE
    go_wp2
    go_ret
    rw [HE.out]
    exact ⟨rfl, HB.out⟩
   ·rw [if_neg (by omega)] at HE
    go_wp2
    go_ret
    rw [HE.out]
    exact ⟨rfl, HB.out⟩
theorem win_sub {l : List PV} (hs : ∀ x ∈ l, chE x.par.ring = 0) {L H L' H' : Int × Int} (h0 : wnE L H = 0) (h0' : wnE L' H' = 0) (h1 : L'.1 ≤ L.1) (h2 : L'.2 ≤ L.2) (h3 : H.1 ≤ H'.1) (h4 : H.2 ≤ H'.2) (hsl : l.Pairwise fun a b => a.par.id < b.par.id) :
  winL l L H = (winL l L' H').filter fun z => decide (z ∈ winL l L H) := by
 obtain ⟨-, k1, k2⟩ := wnE_zero.1 h0
 have hm : ∀ z, z ∈ winL l L H ↔ ∃ x ∈ l, metV L H x.par.ring = true ∧ x.par.id = z := fun z => by
  unfold winL
  rw [if_pos h0]
  constructor
  ·intro h
   obtain ⟨x, hx, e⟩ := List.mem_map.1 h
   exact ⟨x, (List.mem_filter.1 hx).1, (List.mem_filter.1 hx).2, e⟩
  ·rintro ⟨x, hx, h, e⟩
   exact List.mem_map.2 ⟨x, List.mem_filter.2 ⟨hx, h⟩, e⟩
 have hk : ∀ x ∈ l, decide (x.par.id ∈ winL l L H) = metV L H x.par.ring := fun x hx => by
  rw [Bool.eq_iff_iff, decide_eq_true_iff, hm]
  constructor
  ·rintro ⟨y, hy, h, e⟩
   obtain ⟨i, hi, rfl⟩ := List.getElem_of_mem hx
   obtain ⟨j, hj, rfl⟩ := List.getElem_of_mem hy
   have : j = i := by
    rcases Nat.lt_trichotomy i j with g | g | g
    ·have := List.pairwise_iff_getElem.1 hsl i j hi hj g; omega
    ·exact g.symm
    ·have := List.pairwise_iff_getElem.1 hsl j i hj hi g; omega
   subst this
   exact h
  ·intro h
   exact ⟨x, hx, h, rfl⟩
 have e1 : winL l L' H' = (l.filter fun x => metV L' H' x.par.ring).map fun x => x.par.id := if_pos h0'
 have e2 : winL l L H = (l.filter fun x => metV L H x.par.ring).map fun x => x.par.id := if_pos h0
 rw [e1, List.filter_map, List.filter_filter]
 rw [show ((l.filter fun x => ((fun z => decide (z ∈ winL l L H)) ∘ fun x : PV => x.par.id) x && metV L' H' x.par.ring)) = l.filter fun x => metV L H x.par.ring from ?_]
 ·exact e2
 ·refine List.filter_congr fun x hx => ?_
  show (decide (x.par.id ∈ winL l L H) && metV L' H' x.par.ring) = _
  rw [hk x hx]
  cases hv : metV L H x.par.ring
  ·rfl
  ·rw [Bool.true_and, metV_iff.2 (met_more (chE_zero.1 (hs x hx)).2 ⟨k1, k2⟩ h1 h2 h3 h4 (metV_iff.1 hv))]
theorem win_all {o : List (Int × Int)} {l : List PV} (h : PlanQ o (l.map PV.par)) : winL l (awL o).1 (awL o).2 = l.map fun x => x.par.id := by
 unfold winL
 rw [if_pos (aw_ok h.out.1), List.filter_eq_self.2]
 intro x hx
 rw [metV_iff]
 have hr : x.par.ring ∈ ringsQ (l.map PV.par) := List.mem_map_of_mem (List.mem_map_of_mem hx)
 have hx0 := (aw_len (h.each _ (List.mem_map_of_mem hx)).1).1
 have hz : onRim x.par.ring (nx x.par.ring 0) := ⟨0, hx0, on_left _ _⟩
 obtain ⟨-, -, h3⟩ := h.fit.on hr hz
 have hs : 0 ≤ side o (nx x.par.ring 0) := by
  by_cases hb : onRim o (nx x.par.ring 0)
  ·rw [side_zero.2 hb]; exact Int.le_refl _
  ·rw [(h3 hb).1]; decide
 exact .inr (rim_in hz (side_in (aw_len h.out.1).1 hs))
theorem filt_take {M : List Int} {q : Int → Bool} {j : Nat} (h : j < M.length) : (M.take (j + 1)).filter q = (M.take j).filter q ++ if q M[j] = true then [M[j]] else [] := by
 rw [List.take_succ_eq_append_getElem h, List.filter_append]
 congr 1
 by_cases hb : q M[j] = true
 ·rw [if_pos hb, List.filter_cons_of_pos hb]; rfl
 ·rw [if_neg hb, List.filter_cons_of_neg hb]; rfl
theorem filt_pre {M : List Int} {q : Int → Bool} {j : Nat} (h : j < M.length) (hq : q M[j] = true) : (M.filter q)[((M.take j).filter q).length]? = some M[j] := by
 have : M.filter q = (M.take j).filter q ++ M[j] :: (M.drop (j + 1)).filter q := by
  conv => lhs; rw [← List.take_append_drop j M, List.drop_eq_getElem_cons h]
  rw [List.filter_append, List.filter_cons_of_pos hq]
 rw [this, List.getElem?_append_right (Nat.le_refl _), Nat.sub_self]
 rfl
theorem win_len (l : List PV) (L H : Int × Int) : (winL l L H).length ≤ l.length := by
 unfold winL
 split
 ·rw [List.length_map]; exact List.length_filter_le _ _
 ·exact Nat.zero_le _
set_option maxRecDepth 100000 in
set_option maxHeartbeats 8000000 in
theorem grows_walk (o : List (Int × Int)) (Ao : Option Addr) (co : Nat) (l : List PV) (Ap : Option Addr) (cp : Nat) (ho : o.length ≤ 8796093022208) (hown : ∀ x ∈ l, x.par.own.size ≤ maxLen) (L H : Int × Int) (n : Nat) (hn : n ≤ 255) (w : World) (h : PlanAt w o Ao co l Ap cp) :
  Calls Tryz.prog 3 #[.agg #[.slice Ao o.length co, .slice Ap l.length cp], .agg #[.int .i64 L.1, .int .i64 L.2, .int .i64 H.1, .int .i64 H.2], .int .u8 n] w fun e w' => e = .returned (.bool true) ∧ Below w.heap.size w w' := by
 have HQ := ((Hold.refl w).new #[.slice Ao o.length co, .slice Ap l.length cp] 26).new' #[.int .i64 L.1, .int .i64 L.2, .int .i64 H.1, .int .i64 H.2] 30 (n := w.heap.size + 1) (by simp)
 have HPA := Lib.hid (fun W (hb : Below w.heap.size w W) => h.on hb)
 have HO := Lib.hid ho
 have HOW := Lib.hid hown
 clear h ho hown
 go_enter Tryz.func3, Tryz.ntmps3
 go_upto_region 1 with (fail)
 generalize (World.alloc _ _) = W1 at HQ ⊢
 generalize w.heap.size + 1 = g1 at HQ ⊢
 obtain ⟨g0, hg0⟩ : ∃ g, w.heap.size = g := ⟨_, rfl⟩
 rw [hg0] at HQ ⊢
 have HG0 := Lib.hid hg0
 clear hg0
 have HIX := Lib.hid (qindex_any o Ao co l Ap cp HO.out HOW.out W1 (HPA.out W1 HQ.1))
 obtain ⟨c0, c1⟩ := HQ.pt (.tail _ (.head _))
 have HQ1 := Lib.hid HQ
 clear HQ
 go_wp2_with fail
 go_at_call 4
 refine HIX.out.mono ?_
 rintro e w2 (⟨rfl, hb2⟩ | ⟨b, m1, m2, l', rfl, hb2, hck, ⟨h8, h3⟩, hpar, hbo, hro, hst, hlf, hrw⟩)
 ·have HBE := Lib.hid (HQ1.out.on hb2).1
  clear hb2 HIX c0 c1
  go_wp2_with fail
  refine bodyPost_ret (v := .bool true) ?_ rfl ⟨rfl, HBE.out⟩
  simp [results, Tryz.results3, go_sem]
 ·obtain ⟨hpq, hs, hnorm⟩ := plan_sorted4 hck hpar
  have hll : l'.length = l.length := by
   have := congrArg List.length hpar
   rwa [List.length_map, List.length_map] at this
  have HLL := Lib.hid hll
  have H8 : Hid (l'.length ≤ 80) := by unfold Hid; omega
  have HS2 : Hid (St W1 b m1 m2 l' 0 w2) := ⟨hb2, hro, hst, hlf, hrw, hbo⟩
  have HSO := Lib.hid hs
  have HPQ := Lib.hid hpq
  have HCH : Hid (∀ x ∈ l', chE x.par.ring = 0) := fun x hx => (hnorm x hx).1
  have HWO := Lib.hid (fun L H W => window_ok2 L H W)
  have HAR := Lib.hid (fun W (hB : Below W1.heap.size W1 W) => ref_around o Ao co (aw_len hpq.out.1).1 (aw_len hpq.out.1).2 W ((HPA.out W (HQ1.out.on hB).1).out))
  obtain ⟨c0, c1, c2, c3⟩ := (HQ1.out.on hb2).win4
  clear hb2 hbo hck h8 h3 hpar hro hst hlf hrw hpq hs hnorm HIX hll
  go_wp2_with fail
  go_at_call 5
  refine (HWO.out L H w2).mono ?_
  rintro e w3 ⟨rfl, hb3⟩
  have HS3 := Lib.hid (HS2.out.on hb3)
  clear hb3 c0 c1 c2 c3
  by_cases he : wnE L H = 0
  rotate_left
  ·have e0 : (wnE L H != 0) = true := by simpa using he
   have HBE := Lib.hid (HQ1.out.on HS3.out.below).1
   clear he
   generalize wnE L H = k at *
   go_wp2_with fail
   refine bodyPost_ret (v := .bool true) ?_ rfl ⟨rfl, HBE.out⟩
   simp [results, Tryz.results3, go_sem]
  ·have HE := Lib.hid he
   obtain ⟨hg, -, -⟩ := wnE_zero.1 he
   obtain ⟨hgL, hgH⟩ := gdL_two.1 hg
   unfold Gd at hgL hgH
   rw [he]
   obtain ⟨c0, c1, c2, c3⟩ := (HQ1.out.on HS3.out.below).win4
   clear hg he
   have n0 : (0 : Int) ≤ (n : Int) := by omega
   have n1 : (n : Int) ≤ 255 := by omega
   obtain ⟨x1, hx1⟩ : ∃ x : Int, x = L.1 - n := ⟨_, rfl⟩
   obtain ⟨y2, hy2⟩ : ∃ y : Int, y = H.2 + n := ⟨_, rfl⟩
   have HX1 : Hid (x1 ≤ L.1 ∧ H.2 ≤ y2) := ⟨by omega, by omega⟩
   go_upto_region 7 with (fail)
   rw [← hx1, ← hy2]
   have hq9 := heap_alloc_new w3 (Obj.cells #[.int .i64 x1, .int .i64 L.2, .int .i64 H.1, .int .i64 y2] 30 (0, 0))
   have HS5 := Lib.hid (HS3.out.on ((Below.refl w3.heap.size w3).alloc (Nat.le_refl _) (Obj.cells #[.int .i64 x1, .int .i64 L.2, .int .i64 H.1, .int .i64 y2] 30 (0, 0))))
   have hbl : b < w3.heap.size := by
    obtain ⟨d, q, v, hb⟩ := HS3.out.blk
    exact blk_lt hb
   have HBL : Hid (w3.heap.size ≠ b) := by unfold Hid; omega
   clear hbl c0 c1 c2 c3
   generalize (World.alloc _ _) = w5 at HS5 hq9 ⊢
   generalize w3.heap.size = g9 at hq9 HBL ⊢
   have HC9 : Hid (∀ W, w5.grownBy W (some b) → W.cell? ⟨g9, 0, none⟩ = some (.int .i64 x1) ∧ W.cell? ⟨g9, 1, none⟩ = some (.int .i64 L.2) ∧ W.cell? ⟨g9, 2, none⟩ = some (.int .i64 H.1) ∧ W.cell? ⟨g9, 3, none⟩ = some (.int .i64 y2)) := fun W hB => by
    have h := (hB.block g9 (blk_lt hq9) (fun e => HBL.out (by have := Option.some.inj e; omega))).trans hq9
    exact ⟨blk_cell h 0, blk_cell h 1, blk_cell h 2, blk_cell h 3⟩
   obtain ⟨e0, e1, e2, e3⟩ := HC9.out _ (World.grownBy.refl _ _)
   have HW2 : Hid (∀ W, Calls Tryz.prog 5 #[.agg #[.int .i64 x1, .int .i64 L.2, .int .i64 H.1, .int .i64 y2]] W fun e w' => e = .returned (.int .i64 (wnE (x1, L.2) (H.1, y2))) ∧ Below W.heap.size W w') := fun W => HWO.out (x1, L.2) (H.1, y2) W
   clear hx1 hy2 hq9 hgL hgH n0 n1
   go_wp2_with fail
   go_at_call 5
   refine (HW2.out w5).mono ?_
   rintro e w6 ⟨rfl, hb6⟩
   have HS6 := Lib.hid (HS5.out.on hb6)
   have HG6 := Lib.hid (grown_below hb6 (some b))
   clear hb6 e0 e1 e2 e3 HW2
   by_cases he2 : wnE (x1, L.2) (H.1, y2) = 0
   rotate_left
   ·have e0 : (wnE (x1, L.2) (H.1, y2) != 0) = true := by simpa using he2
    have HBE := Lib.hid (HQ1.out.on HS6.out.below).1
    clear he2
    generalize wnE (x1, L.2) (H.1, y2) = k at *
    go_wp2_with fail
    refine bodyPost_ret (v := .bool true) ?_ rfl ⟨rfl, HBE.out⟩
    simp [results, Tryz.results3, go_sem]
   ·have HSUB := Lib.hid (win_sub HCH.out HE.out he2 HX1.out.1 (Int.le_refl _) (Int.le_refl _) HX1.out.2 HSO.out)
    have HLS := Lib.hid (win_len l' L H)
    have HLM := Lib.hid (win_len l' (x1, L.2) (H.1, y2))
    have HW1 := Lib.hid (Window_any b m1 m2 0 (by decide) l' HSO.out HCH.out L H w6 HS6.out.rings HS6.out.idx)
    have HW2 : Hid (∀ W, RingsOk W b m1 l' cellsQ → IdxS W b m1 m2 1 (idsIn cellsQ (ringL l')) → Calls Tryz.prog 6 #[.pointer (some ⟨b, 0, none⟩), .agg #[.int .i64 x1, .int .i64 L.2, .int .i64 H.1, .int .i64 y2]] W fun e W' => W.grownBy W' (some b) ∧ IdxS W' b m1 m2 (1 + 1) (idsIn cellsQ (ringL l')) ∧ ∃ A cap, e = .returned (.tuple #[.slice A (winL l' (x1, L.2) (H.1, y2)).length cap, .int .i64 (wnE (x1, L.2) (H.1, y2))]) ∧ Items W' W'.heap.size A encN (winL l' (x1, L.2) (H.1, y2)) ∧ ∀ ad, A = some ad → some b ≠ some ad.block) := fun W h1 h2 => Window_any b m1 m2 1 (by decide) l' HSO.out HCH.out (x1, L.2) (H.1, y2) W h1 h2
    rw [HE.out] at HW1
    rw [he2] at HW2 ⊢
    clear he2
    obtain ⟨c0, c1, c2, c3⟩ := (HQ1.out.on HS6.out.below).win4
    generalize winL l' L H = S at *
    generalize winL l' (x1, L.2) (H.1, y2) = M at *
    go_wp2_with fail
    go_at_call 6
    refine HW1.out.mono ?_
    rintro e w7 ⟨hg, hi, A1, cap1, rfl, hit, hna⟩
    have HS7 := Lib.hid (HS6.out.grown hg hi)
    have HG7 := Lib.hid (HG6.out.trans hg)
    have HI1 := Lib.hid hit
    have HN1 := Lib.hid hna
    obtain ⟨e0, e1, e2, e3⟩ := HC9.out _ HG7.out
    clear hg hi hit hna c0 c1 c2 c3 HW1
    go_wp2_with fail
    go_at_call 6
    refine (HW2.out w7 HS7.out.rings HS7.out.idx).mono ?_
    rintro e w8 ⟨hg, hi, A2, cap2, rfl, hit, hna⟩
    have HS8 := Lib.hid (HS7.out.grown hg hi)
    have HI18 := Lib.hid ((HI1.out.but hg HN1.out).wide hg.size)
    have HI2 := Lib.hid hit
    have HN2 := Lib.hid hna
    obtain ⟨c0, c1⟩ := (HQ1.out.on HS8.out.below).pt (.tail _ (.head _))
    clear hg hi hit hna e0 e1 e2 e3 HW2
    go_wp2_with fail
    go_at_call 7
    refine (HAR.out w8 HS8.out.below).mono ?_
    rintro e w9 ⟨rfl, hb9⟩
    have HS9 := Lib.hid (HS8.out.on hb9)
    have HI19 := Lib.hid (HI18.out.on hb9)
    have HI29 := Lib.hid (HI2.out.on hb9)
    have HW3 := Lib.hid (Window_any b m1 m2 2 (by decide) l' HSO.out HCH.out (awL o).1 (awL o).2 w9 HS9.out.rings HS9.out.idx)
    rw [aw_ok HPQ.out.out.1, win_all HPQ.out, List.length_map, HLL.out] at HW3
    clear hb9 c0 c1
    generalize awL o = aw at *
    go_wp2_with fail
    go_at_call 6
    refine HW3.out.mono ?_
    rintro e wa ⟨hg, hi, A3, cap3, rfl, -, -⟩
    have HSA := Lib.hid (HS9.out.grown hg hi)
    have HIS := Lib.hid ((HI19.out.but hg HN1.out).wide hg.size)
    have HIM := Lib.hid ((HI29.out.but hg HN2.out).wide hg.size)
    have HQA := Lib.hid (HQ1.out.on HSA.out.below)
    obtain ⟨c0, c1⟩ := HQA.out.pt (.tail _ (.head _))
    obtain ⟨q, hq⟩ : ∃ q : Int → Bool, S = M.filter q := ⟨_, HSUB.out⟩
    have HSQ := Lib.hid hq
    have b8 : (S.length : Int) ≤ 80 := by have := HLS.out; have := H8.out; omega
    have b9 : (M.length : Int) ≤ 80 := by have := HLM.out; have := H8.out; omega
    clear hg hi hq HW3 HSUB
    go_wp2_with fail
    go_loopg [16, 17] M.length (fun g t i wr => ∃ j T : Nat, j ≤ M.length ∧ g = M.length - j ∧ Hid (T = ((M.take j).filter q).length) ∧ t = .int .i64 T ∧ i = .int .i64 j ∧ Below wa.heap.size wa wr)
    case atStart => exact ⟨0, 0, Nat.zero_le _, rfl, rfl, rfl, rfl, Below.refl _ _⟩
    case round =>
     obtain ⟨j, T, hj, hgj, HT, rfl, rfl, hbr⟩ := hrel
     have HGJ := Lib.hid hgj
     have HBR := Lib.hid hbr
     have HBE := Lib.hid (HQA.out.on hbr).1
     have hTS : T ≤ S.length := by
      rw [HT.out, HSQ.out]
      exact ((List.take_sublist j M).filter q).length_le
     clear hgj hbr
     by_cases hjl : j < M.length
     ·have b1 : (j : Int) < (M.length : Int) := by omega
      by_cases hTl : T < S.length
      ·have b2 : (T : Int) < (S.length : Int) := by omega
       have b01 : (0 : Int) ≤ (j : Int) := by omega
       have b02 : (0 : Int) ≤ (T : Int) := by omega
       obtain ⟨ad1, rfl, -, -, -⟩ := Items.at kindN.len (HIS.out.on HBR.out) hTl
       obtain ⟨ad2, rfl, -, -, -⟩ := Items.at kindN.len (HIM.out.on HBR.out) hjl
       have HK : Hid (∀ W, Below wa.heap.size wa W → W.cell? (ad1.add T) = some (.int .i64 S[T]) ∧ W.cell? (ad2.add j) = some (.int .i64 M[j])) := fun W hB => by
        obtain ⟨adA, e', -, i0, -⟩ := Items.at kindN.len (HIS.out.on hB) hTl
        obtain rfl := Option.some.inj e'
        obtain ⟨adB, e', -, i1, -⟩ := Items.at kindN.len (HIM.out.on hB) hjl
        obtain rfl := Option.some.inj e'
        have i0 := i0 _ (by decide) rfl
        have i1 := i1 _ (by decide) rfl
        rw [Nat.mul_one] at i0 i1
        exact ⟨i0, i1⟩
       have HFT := Lib.hid (filt_take (q := q) hjl)
       have hyes : q M[j] = true → M[j] = S[T] := fun h => by
        have h1 := filt_pre hjl h
        have h2 : S[T]? = some M[j] := by
         rw [HSQ.out, HT.out]; exact h1
        exact (List.getElem?_eq_some_iff.1 h2).2.symm
       have hno : M[j] = S[T] → q M[j] = true := fun h => by
        have h1 : S[T] ∈ M.filter q := by
         have h2 := List.getElem_mem hTl
         rw [← HSQ.out]
         exact h2
        rw [h]
        exact (List.mem_filter.1 h1).2
       have HYN : Hid (q M[j] = true ↔ M[j] = S[T]) := ⟨hyes, hno⟩
       clear hyes hno
       generalize S[T] = y at *
       generalize M[j] = z at *
       go_wp2_with fail
       refine wp_region_held_drew (S := fun W => W.cell? (ad1.add T) = some (.int .i64 y) ∧ W.cell? (ad2.add j) = some (.int .i64 z)) (by kernel_rfl) ?_ (fun hHeld => ?_)
       ·(try dsimp only)
        exact HK.out _ HBR.out.drew
       have HW7 := Lib.hid HBR.out.drew
       generalize (World.drew _) = w7' at HW7 hHeld ⊢
       refine tZ 0 ?_; refine tZ 1 ?_; refine tZ 2 ?_; refine tZ 3 ?_; refine tZ 4 ?_; refine tZ 5 ?_; refine tZ 6 ?_; refine tZ 7 ?_; refine tZ 8 ?_
       refine wpAnyH_done (by decide +kernel) ?_ _
       clear hHeld
       by_cases hzy : z = y
       ·have f1 : (z == y) = true := by simpa using hzy
        have HN : Hid (((M.take (j + 1)).filter q).length = T + 1) := by
         unfold Hid
         rw [HFT.out, if_pos (HYN.out.2 hzy), List.length_append, HT.out]
         rfl
        clear hzy HYN
        go_wp2_with fail
        go_roundg (M.length - (j + 1))
        case measure => have := HGJ.out; omega
        case rel => exact ⟨j + 1, T + 1, by omega, rfl, HN.out.symm, by go_num, by go_num, HW7.out⟩
       ·have f1 : (z == y) = false := by simpa using hzy
        have HN : Hid (((M.take (j + 1)).filter q).length = T) := by
         unfold Hid
         rw [HFT.out, if_neg (fun h => hzy (HYN.out.1 h)), List.append_nil, HT.out]
        clear hzy HYN
        go_wp2_with fail
        go_roundg (M.length - (j + 1))
        case measure => have := HGJ.out; omega
        case rel => exact ⟨j + 1, T, by omega, rfl, HN.out.symm, by go_num, by go_num, HW7.out⟩
      ·obtain rfl : T = S.length := by omega
       have b2 : ¬ (S.length : Int) < (S.length : Int) := by omega
       go_wp2_with fail
       refine bodyPost_ret (v := .bool true) ?_ rfl ⟨rfl, HBE.out⟩
       simp [results, Tryz.results3, go_sem]
     ·obtain rfl : j = M.length := by omega
      have b1 : ¬ (M.length : Int) < (M.length : Int) := by omega
      obtain rfl : T = S.length := by rw [HT.out, HSQ.out, List.take_length]
      go_wp2_with fail
      refine bodyPost_ret (v := .bool true) ?_ rfl ⟨rfl, HBE.out⟩
      simp [results, Tryz.results3, go_sem]
end Go.Proofs.YtoabooljgojoiabGreat

set_option maxRecDepth 100000
namespace Go.Proofs.YtoabooljgojoiabGreat.queryGrows
open Go.Joins Go.ChangeShapes Go.WideShapes Go.ChangeAt Go.RowKit

theorem contract (H : Type) (enc : TypeId × Value → H) (W : World) (base : Nat) (args : Array Value) (ds gs : List (DataW H)) (before : List MemPlace)
  (hval : ∀ (j : Nat) t v, Tryz.f3.params[j]? = some t → args[j]? = some v → Value.okWide Tryz.prog W .any base t v)
  (hW : DataW.Whole enc Tryz.prog Tryz.f3.params.toList Rows.queryGrowsSpec.vars false W args.toList ds gs before)
  (hsz : (DataW.weightsEach Tryz.prog (Tryz.f3.params.toList ++ (OpenSpec.ofChange Rows.queryGrowsSpec).bare.plain.varTypes Tryz.prog) (ds ++ gs)).all (· ≤ reachBytes) = true) :
  Calls Tryz.prog 3 args W fun e W' => ∃ v, e = .returned v ∧ Rows.queryGrowsSpec.post enc Tryz.prog Tryz.f3 false true false false W args v W' := by
 have hW' := hW
 have hlt := fun p hp => hW.lt p hp
 obtain ⟨p, q, hA0, hV, rfl, -, -⟩ := hW
 have hA : DataW.TrodAll enc Tryz.prog W 0 (fun _ => true) true Tryz.f3.params.toList args.toList ds p := hA0
 rw [Tryz.params3] at hA hval
 obtain ⟨v0, vs0, d0, ds0, p0, q0, hargs, rfl, rfl, h0, r0⟩ := trodAll_cons hA
 obtain ⟨v1, vs1, d1, ds1, p1, q1, rfl, rfl, rfl, h1, r1⟩ := trodAll_cons r0
 obtain ⟨v2, vs2, d2, ds2, p2, q2, rfl, rfl, rfl, h2, r2⟩ := trodAll_cons r1
 obtain ⟨rfl, rfl, rfl⟩ := trodAll_nil r2
 obtain rfl : args = #[v0, v1, v2] := by cases args; simp_all
 obtain ⟨rfl, rfl⟩ := trodVars_none hV
 have hl0 : ∀ q ∈ p0, q.block < W.heap.size := fun q hq => hlt q (by simp [hq])
 have hl1 : ∀ q ∈ p1, q.block < W.heap.size := fun q hq => hlt q (by simp [hq])
 have hl2 : ∀ q ∈ p2, q.block < W.heap.size := fun q hq => hlt q (by simp [hq])
 obtain ⟨o, Ao, co, p, Ap, cp, rfl, hown, hpl⟩ := open_plan (hval 0 26 v0 rfl rfl) h0
 obtain ⟨hl, hat⟩ := hpl fun k hk => of_decide_eq_true (List.all_eq_true.1 hsz _ (DataW.weights_mem_each (j := 0) (t := 26) (by rw [Tryz.params3]; rfl) rfl k hk))
 obtain ⟨wdL, wdH, rfl⟩ := open_window (hval 1 30 v1 rfl rfl) h1
 obtain ⟨nn, rfl, -, -, wnn⟩ := open_int Tryz.underlying5 (hval 2 5 v2 rfl rfl) h2
 have bnn := bounds_u8 wnn
 obtain ⟨nn, rfl⟩ := Int.eq_ofNat_of_zero_le (show 0 ≤ nn by omega)
 clear hA0
 refine (grows_walk o Ao co p Ap cp (by have := hat.room; omega) hown wdL wdH nn (by omega) W hat).mono fun e W' ⟨he, hb⟩ => ?_
 subst he
 exact ⟨_, rfl, post_under (pa := (p0 ++ (p1 ++ (p2 ++ [])))) (pv := []) hW' (fun _ _ _ => trodAll_cons_mk (shut_bool Tryz.underlying4 _) trodAll_mk0)
  (fun _ hs => (trodAll_cons_mk (again (by kernel_rfl) (of_decide_eq_true (by kernel_rfl)) h0 hb hl0 (fun q hq => hs q (by simp [hq]))) (trodAll_cons_mk (again (by kernel_rfl) (of_decide_eq_true (by kernel_rfl)) h1 hb hl1 (fun q hq => hs q (by simp [hq]))) (trodAll_cons_mk (again (by kernel_rfl) (of_decide_eq_true (by kernel_rfl)) h2 hb hl2 (fun q hq => hs q (by simp [hq]))) trodAll_mk0)))) (fun _ _ => rfl) (by simp)
  hb (ok_one (by kernel_rfl) rfl (okWide_bool_mk Tryz.underlying4 _))⟩

noncomputable def wit : Array Value := #[.agg #[.slice none 0 0, .slice none 0 0], .agg #[.int .i64 0, .int .i64 0, .int .i64 0, .int .i64 0], .int .u8 0]
theorem reads (os : Os) {H : Type} (enc : TypeId × Value → H) : ∃ places, DataW.whole enc Tryz.prog ((World.holding Tryz.prog os ⟨#[], #[], []⟩).forCall (fun _ _ => 0) ⟨#[], wit, []⟩).memory Tryz.f3.params.toList Rows.queryGrowsSpec.vars false wit.toList 8 = some ([.agg [.nil, .nil], .agg [.agg [.lit (.int .i64 0), .lit (.int .i64 0)], .agg [.lit (.int .i64 0), .lit (.int .i64 0)]], .lit (.int .u8 0)], [], places) :=
 ⟨[], by kernel_rfl⟩

theorem laid_met (os : Os) : laidMet Tryz.prog Rows.queryGrowsRow.laid ((World.holding Tryz.prog os ⟨#[], #[], []⟩).forCall (fun _ _ => 0) ⟨#[], wit, []⟩).memory :=
 laidMet_of_run' 8 (by kernel_rfl) (by kernel_rfl)

set_option maxRecDepth 100000 in
theorem lifted (os : Os) (started : os.Started) (H : Type) (enc : TypeId × Value → H) (F : Stop.Interp) :
  ReturnsInHanded {} Tryz.checked os 3 .any ((OpenSpec.ofChange Rows.queryGrowsSpec).preRow enc Tryz.prog Tryz.f3 Rows.queryGrowsRow.domain false Rows.queryGrowsRow.laid) (((OpenSpec.ofChange Rows.queryGrowsSpec).at F).post enc Tryz.prog Tryz.f3 false true false false) := by
 obtain ⟨places, hx⟩ := reads os enc
 refine returnsInHanded_of_row (C := Tryz.checked) (s := OpenSpec.ofChange Rows.queryGrowsSpec) own started (by kernel_rfl) Tryz.func3
  (witness_row_at (enc := enc) (C := Tryz.checked) false (World.holding Tryz.prog os ⟨#[], #[], []⟩) wit rfl (by kernel_rfl) (by kernel_rfl) (by kernel_rfl)
   (OpenSpec.preRow_of_cond 8 hx (by kernel_rfl) (fun k hk => by cases hk) (by kernel_rfl) (laid_met os))) ?_
 intro W base args ds gs before hval hW _ _ hsz _ _ _
 exact contract H enc W base args ds gs before hval hW hsz

theorem said : Rows.QueryGrowsSaid :=
 OpenClaim.holds_of_cond 3 Tryz.f3 rfl rfl rfl rfl rfl rfl rfl ⟨rfl, rfl, rfl, rfl, rfl⟩ rfl rfl rfl rfl rfl (by kernel_rfl) Tryz.func3 (by kernel_rfl)
  (of_decide_eq_true (by kernel_rfl)) (by unfold Func.isWrapper; first | (rw [if_pos (by decide +kernel)]; kernel_rfl) | (rw [if_neg (by decide +kernel)]; exact ⟨rfl, rfl⟩))
  (fun os started H enc _ F => by rw [OpenClaim.pre_eq_preRow]; exact lifted os started H enc F)
end Go.Proofs.YtoabooljgojoiabGreat.queryGrows
