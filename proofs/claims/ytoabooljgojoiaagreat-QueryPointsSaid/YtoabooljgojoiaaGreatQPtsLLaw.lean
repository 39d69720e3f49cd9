/- Proved: for all plans p and points at the law QueryPoints answers true, and both read behind the call as before: a window that is a point finds what the point finds, and where two parcels have a border in common, both are found there. No condition narrows the input. -/
import Derived.Test.YtoabooljgojoiaaGreatQSrt
import Derived.Test.YtoabooljgojoiaaGreatQInd
import Derived.Test.YtoabooljgojoiaaGreatOpenQ
/- The walk of the law QueryPoints. -/
namespace Go.Proofs.YtoabooljgojoiaaGreat
open Go.RowKit
theorem takes_same2 {xs ys : List Int} {k : Nat} (h1 : k < xs.length) (h2 : k < ys.length) (h : xs.take k = ys.take k) (e : xs[k] = ys[k]) : xs.take (k + 1) = ys.take (k + 1) := by
 rw [List.take_succ_eq_append_getElem h1, List.take_succ_eq_append_getElem h2, h, e]
set_option maxRecDepth 100000 in
set_option maxHeartbeats 1000000 in
theorem ref_ints2 (xs ys : List Int) (A B : Option Addr) (ca cb : Nat) (hn : xs.length ≤ 1000000) (w : World) (ha : Items w w.heap.size A encN xs) (hb : Items w w.heap.size B encN ys) :
  Calls Tryz.prog 13 #[.slice A xs.length ca, .slice B ys.length cb] w fun e w' => e = .returned (.bool (decide (xs = ys))) ∧ Below w.heap.size w w' := by
 have HA := Lib.hid (fun W (h : Below w.heap.size w W) => ha.on h)
 have HB := Lib.hid (fun W (h : Below w.heap.size w W) => hb.on h)
 have HN := Lib.hid hn
 have HB0 := Hold.refl w
 clear ha hb hn
 go_enter Tryz.func13, Tryz.ntmps13
 go_wp2_with fail
 go_loopg [5] xs.length (fun g i wr => ∃ k : Nat, k ≤ xs.length ∧ k ≤ ys.length ∧ g = xs.length - k ∧ i = .int .i64 k ∧ xs.take k = ys.take k ∧ Hold w [] wr)
 case atStart => exact ⟨0, Nat.zero_le _, Nat.zero_le _, rfl, rfl, rfl, HB0⟩
 case round =>
  clear HB0
  obtain ⟨k, hk1, hk2, hgk, rfl, htk, HW⟩ := hrel
  have HGK := Lib.hid hgk
  have HTK := Lib.hid htk
  clear hgk htk
  have b0 : (0 : Int) ≤ (k : Int) := by omega
  by_cases h1 : k < xs.length
  ·have b1 : (k : Int) < (xs.length : Int) := by omega
   have b9 : (xs.length : Int) ≤ 1000000 := by have := HN.out; omega
   by_cases h2 : k < ys.length
   ·obtain ⟨ad, rfl, -, d0, -⟩ := (HA.out _ HW.1).at kindN.len h1
    obtain ⟨ae, rfl, -, d1, -⟩ := (HB.out _ HW.1).at kindN.len h2
    have d0 := d0 _ (by decide) rfl
    have d1 := d1 _ (by decide) rfl
    rw [Nat.mul_one] at d0 d1
    have b2 : (k : Int) < (ys.length : Int) := by omega
    have HS := Lib.hid (takes_same2 h1 h2 HTK.out)
    have HNE : Hid (xs[k] ≠ ys[k] → decide (xs = ys) = false) := fun h => decide_eq_false fun e => h (by simp only [e])
    clear HA HB HTK
    generalize xs[k] = a at *
    generalize ys[k] = b at *
    go_upto_region 4 with (fail)
    by_cases h3 : a = b
    ·have HT := Lib.hid (HS.out h3)
     have e1 : (a == b) = true := by simpa using h3
     have e2 : (a != b) = false := by simpa using h3
     clear HS HNE h3
     go_quiet (fail)
     have HK := Lib.hid (HW.drewN nq)
     clear HW
     go_wp2
     go_roundg (xs.length - (k + 1))
     case measure => have := HGK.out; omega
     case rel => exact ⟨k + 1, by omega, by omega, rfl, by go_num, HT.out, HK.out⟩
    ·have HF := Lib.hid (HNE.out h3)
     have e1 : (a == b) = false := by simpa using h3
     have e2 : (a != b) = true := by simpa using h3
     clear HS HNE h3
     go_quiet (fail)
     have HK := Lib.hid (HW.drewN nq).1
     clear HW
     go_wp2
     go_ret
     rw [HF.out]
     exact ⟨rfl, HK.out⟩
   ·have b2 : ¬ (k : Int) < (ys.length : Int) := by omega
    have HF : Hid (decide (xs = ys) = false) := decide_eq_false fun e => by rw [e] at h1; omega
    have e1 : ((xs.length : Int) == (ys.length : Int)) = false := by simp; omega
    have HK := Lib.hid HW.1
    clear HA HB HTK HW h1 h2
    go_wp2
    go_ret
    rw [HF.out]
    exact ⟨rfl, HK.out⟩
  ·have b1 : ¬ (k : Int) < (xs.length : Int) := by omega
   have hk : k = xs.length := by omega
   have HK := Lib.hid HW.1
   by_cases h2 : xs.length = ys.length
   ·have HF : Hid (decide (xs = ys) = true) := decide_eq_true (by
     have := HTK.out
     rw [hk, List.take_length, h2, List.take_length] at this
     exact this)
    have e1 : ((xs.length : Int) == (ys.length : Int)) = true := by simp; omega
    clear HA HB HTK HW h1 h2 hk hk1 hk2
    go_wp2
    go_ret
    rw [HF.out]
    exact ⟨rfl, HK.out⟩
   ·have HF : Hid (decide (xs = ys) = false) := decide_eq_false fun e => h2 (by rw [e])
    have e1 : ((xs.length : Int) == (ys.length : Int)) = false := by simp; omega
    clear HA HB HTK HW h1 h2 hk hk1 hk2
    go_wp2
    go_ret
    rw [HF.out]
    exact ⟨rfl, HK.out⟩
theorem mem_ownL2 {l : List PV} {e : EdT} {c : Int} : (e, c) ∈ ownL l ↔ ∃ y ∈ l, y.par.id = c ∧ e ∈ edg y.par.ring := by
 unfold ownL
 rw [List.mem_flatMap]
 constructor
 ·rintro ⟨y, hy, h⟩
  obtain ⟨e', he, h2⟩ := List.mem_map.1 h
  injection h2 with h3 h4
  subst h3 h4
  exact ⟨y, hy, rfl, he⟩
 ·rintro ⟨y, hy, rfl, he⟩
  exact ⟨y, hy, List.mem_map.2 ⟨e, he, rfl⟩⟩
theorem plan_sorted2 {o : List (Int × Int)} {l : List PV} (h : PlanQ o (l.map PV.par)) : l.Pairwise fun a b => a.par.id < b.par.id := by
 have h1 := h.fine.1
 rwa [List.pairwise_map] at h1
theorem own_len {l : List PV} (h : ∀ x ∈ l, x.par.ring.length ≤ 1000) : (ownL l).length ≤ l.length * 1000 := by
 unfold ownL
 induction l with
 |nil => exact Nat.zero_le _
 |cons x l ih =>
  have h1 := ih fun y hy => h y (List.mem_cons_of_mem _ hy)
  have h2 := h x List.mem_cons_self
  rw [List.flatMap_cons, List.length_append, List.length_map, edg_len, List.length_cons]
  omega
end Go.Proofs.YtoabooljgojoiaaGreat
namespace Go.Proofs.YtoabooljgojoiaaGreat
open Go.RowKit

theorem wn_point (p : Int × Int) : wnE p p = atE p := by
 unfold wnE atE
 cases hp : gd p
 ·rw [if_neg (by simp [gdL, hp])]; rfl
 ·rw [if_pos (by simp [gdL, hp]), if_neg (by omega)]; rfl
theorem cut_point2 {p a b : Int × Int} (h : Cut p p a b) : OnS a b p := by
 obtain ⟨n, m, hm, h0, h1, e1, e2, e3, e4⟩ := h
 rw [← on_mulp hm]
 have x1 : m * p.1 = m * a.1 + n * (b.1 - a.1) := by omega
 have x2 : m * p.2 = m * a.2 + n * (b.2 - a.2) := by omega
 have b0 : ∀ x y z : Int, m * z = m * x + n * (y - x) → btw (m * x) (m * y) (m * z) := fun x y z hz => by
  have r : m * x + n * (y - x) = m * y - (m - n) * (y - x) := by grind
  unfold btw
  rcases Int.le_total x y with g | g
  ·have := Int.mul_nonneg h0 (show 0 ≤ y - x by omega); have := Int.mul_nonneg (show 0 ≤ m - n by omega) (show 0 ≤ y - x by omega); omega
  ·have := Int.mul_nonpos_of_nonneg_of_nonpos h0 (show y - x ≤ 0 by omega); have := Int.mul_nonpos_of_nonneg_of_nonpos (show 0 ≤ m - n by omega) (show y - x ≤ 0 by omega); omega
 refine ⟨?_, b0 _ _ _ x1, b0 _ _ _ x2⟩
 unfold crs mulp
 simp only
 rw [x1, x2]
 grind
theorem met_point2 {p : Int × Int} {r : List (Int × Int)} : Met p p r ↔ 0 ≤ side r p := by
 constructor
 ·rintro (h | ⟨i, hi, h⟩)
  ·exact h
  ·have := side_zero.2 ⟨i, hi, cut_point2 h⟩
   omega
 ·exact .inl
theorem metV_point2 {p : Int × Int} {ps : List (Int × Int)} : metV p p ps = decide (0 ≤ side ps p) := by
 rw [Bool.eq_iff_iff, metV_iff, decide_eq_true_eq]; exact met_point2
theorem win_point (l : List PV) (p : Int × Int) : winL l p p = locL l p := by
 unfold winL locL
 rw [wn_point]
 unfold atE
 cases gd p
 ·rw [if_neg (by decide), if_neg (by decide)]
 ·rw [if_pos (by decide), if_pos rfl]
  congr 2
  funext x
  exact metV_point2
structure St (w : World) (b m1 m2 : Nat) (l' : List PV) (n : Int) (W : World) : Prop where
 below : Below w.heap.size w W
 rings : RingsOk W b m1 l' cellsQ
 idx : IdxS W b m1 m2 n (idsIn cellsQ (ringL l'))
 left : MapIs W m2 gv iv OkE (ownL l')
 own : OwnRs w l' W
 far : w.heap.size ≤ b
section
variable {w W W' : World} {b m1 m2 : Nat} {l' : List PV} {n n' : Int}
theorem St.blk (h : St w b m1 m2 l' n W) : ∃ d q v, W.heap[b]? = some (.cells #[.map (some m1), .map (some m2), d, (.int .i32 0), q, v, .int .i64 n] 109 (0, 0)) := h.idx.block
theorem St.grown (h : St w b m1 m2 l' n W) (hg : W.grownBy W' (some b)) (hi : IdxS W' b m1 m2 n' (idsIn cellsQ (ringL l'))) : St w b m1 m2 l' n' W' where
 below := h.below.grown hg h.below.size (fun k e => by obtain rfl := Option.some.inj e; exact h.far)
 rings := h.rings.but hg
 idx := hi
 left := h.left.kept hg (fun e => by
  obtain ⟨d, q, v, hb⟩ := h.blk
  obtain ⟨es, k, hm, -⟩ := h.left
  rw [Option.some.inj e, hb] at hm
  cases hm)
 own x hx := (h.own x hx).kept hg (.inr (by
  obtain ⟨d, q, v, hb⟩ := h.blk
  exact row_block (h.own x hx) hb (by decide)))
 far := h.far
theorem St.on (h : St w b m1 m2 l' n W) (hb : Below W.heap.size W W') : St w b m1 m2 l' n W' := h.grown (grown_below hb (some b)) (h.idx.on hb)
theorem St.count (h : St w b m1 m2 l' n W) : St w b m1 m2 l' (n + 1) (W.setCell ⟨b, 6, none⟩ (.int .i64 (n + 1))) := h.grown (set_grown _ _ _ _) h.idx.count
theorem St.hold (h : St w b m1 m2 l' n W) : ∃ d q v, Hold w [(b, #[.map (some m1), .map (some m2), d, (.int .i32 0), q, v, .int .i64 n], 109)] W := by
 obtain ⟨d, q, v, hb⟩ := h.blk
 exact ⟨d, q, v, h.below, fun e he => by
   obtain rfl := List.mem_singleton.1 he
   exact ⟨hb, h.far⟩, List.pairwise_singleton _ _⟩
end
theorem plan_sorted3 {o : List (Int × Int)} {l l' : List PV} (h : chkB o l = true) (hp : l'.map PV.par = l.map PV.par) : PlanQ o (l'.map PV.par) ∧ (l'.Pairwise fun a b => a.par.id < b.par.id) ∧ ∀ x ∈ l', NormP x.par.ring := by
 have hq := chkB_plan.1 h
 rw [← hp] at hq
 have h1 := hq.fine.1
 rw [List.pairwise_map] at h1
 exact ⟨hq, h1, fun x hx => hq.each x.par (List.mem_map_of_mem hx)⟩
theorem side_end {r : List (Int × Int)} {e : EdT} (h : e ∈ edg r) : side r e.1 = 0 ∧ side r e.2 = 0 := by
 obtain ⟨i, hi, rfl⟩ := mem_edg.1 h
 exact ⟨side_on hi (on_left _ _), side_on hi (on_right _ _)⟩
theorem pair_bd {o : List (Int × Int)} {l : List PV} (hq : PlanQ o (l.map PV.par)) {a c : Int} (h : ∃ p ∈ ownL l, prAt (ownL l) p (a, c)) : bdE (l.map PV.par) a c = 0 ∧ ∀ x ∈ l, x.par.id = a → bdL (ownL l) x.par.ring c ≠ [] ∧ ∀ e ∈ bdL (ownL l) x.par.ring c, gd e.1 = true ∧ a ∈ locL l e.1 ∧ c ∈ locL l e.1 := by
 obtain ⟨⟨e, a'⟩, hp, c', hc, hlt, he⟩ := h
 cases he
 obtain ⟨y, hy, rfl, hye⟩ := mem_ownL2.1 hp
 obtain ⟨z, hz, rfl, hze⟩ := mem_ownL2.1 hc
 refine ⟨?_, fun x hx hxy => ?_⟩
 ·unfold bdE
  rw [if_neg (fun h => h.elim (fun h => h (List.mem_map.2 ⟨y.par, List.mem_map_of_mem hy, rfl⟩)) fun h => h (List.mem_map.2 ⟨z.par, List.mem_map_of_mem hz, rfl⟩)), if_neg (by omega)]
 ·have hxp : x.par = y.par := hq.one (List.mem_map_of_mem hx) (List.mem_map_of_mem hy) hxy
  have hm : e ∈ bdL (ownL l) x.par.ring z.par.id := List.mem_filter.2 ⟨by rw [hxp]; exact hye, isBd_iff.2 hc⟩
  refine ⟨fun h => (by rw [h] at hm; cases hm), fun f hf => ?_⟩
  obtain ⟨hf1, hf2⟩ := List.mem_filter.1 hf
  obtain ⟨z', hz', hzz, hfz⟩ := mem_ownL2.1 (isBd_iff.1 hf2)
  have hg := (edg_gd (normP_small (hq.each _ (List.mem_map_of_mem hx))).2.2 hf1).1
  have s1 := (side_end hf1).1
  have s2 := (side_end hfz).2
  have hgd := gd_iff.2 hg
  refine ⟨hgd, ?_, ?_⟩
  ·unfold locL
   rw [if_pos hgd]
   exact List.mem_map.2 ⟨x, List.mem_filter.2 ⟨hx, decide_eq_true (by rw [s1]; exact Int.le_refl _)⟩, hxy⟩
  ·unfold locL
   rw [if_pos hgd]
   have s3 : side z'.par.ring f.1 = 0 := s2
   exact List.mem_map.2 ⟨z', List.mem_filter.2 ⟨hz', decide_eq_true (by rw [s3]; exact Int.le_refl _)⟩, hzz⟩
theorem loc_len (l : List PV) (p : Int × Int) : (locL l p).length ≤ l.length := by
 unfold locL
 split
 ·rw [List.length_map]; exact List.length_filter_le _ _
 ·exact Nat.zero_le _
theorem take_mem {xs : List Int} {j : Nat} (h : j < xs.length) (a : Int) : decide (a ∈ xs.take (j + 1)) = (decide (a ∈ xs.take j) || xs[j] == a) := by
 rw [Bool.eq_iff_iff, Bool.or_eq_true, decide_eq_true_iff, decide_eq_true_iff, beq_iff_eq, List.take_succ_eq_append_getElem h, List.mem_append, List.mem_singleton]
 exact or_congr Iff.rfl eq_comm
set_option maxRecDepth 100000 in
set_option maxHeartbeats 8000000 in
theorem points_walk (o : List (Int × Int)) (Ao : Option Addr) (co : Nat) (l : List PV) (Ap : Option Addr) (cp : Nat) (ho : o.length ≤ 8796093022208) (hown : ∀ x ∈ l, x.par.own.size ≤ maxLen) (p : Int × Int) (w : World) (h : PlanAt w o Ao co l Ap cp) :
  Calls Tryz.prog 7 #[.agg #[.slice Ao o.length co, .slice Ap l.length cp], .agg #[.int .i64 p.1, .int .i64 p.2]] w fun e w' => e = .returned (.bool true) ∧ Below w.heap.size w w' := by
 have HQ := ((Hold.refl w).new #[.slice Ao o.length co, .slice Ap l.length cp] 26).new' #[.int .i64 p.1, .int .i64 p.2] 28 (n := w.heap.size + 1) (by simp)
 have HPA := Lib.hid (fun W (hb : Below w.heap.size w W) => h.on hb)
 have HO := Lib.hid ho
 have HOW := Lib.hid hown
 clear h ho hown
 go_enter Tryz.func7, Tryz.ntmps7
 go_upto_region 1 with (fail)
 generalize (World.alloc _ _) = W1 at HQ ⊢
 generalize w.heap.size + 1 = g1 at HQ ⊢
 obtain ⟨g0, hg0⟩ : ∃ g, w.heap.size = g := ⟨_, rfl⟩
 rw [hg0] at HQ ⊢
 have HG0 := Lib.hid hg0
 clear hg0
 have HIX := Lib.hid (qindex_any o Ao co l Ap cp HO.out HOW.out W1 (HPA.out W1 HQ.1))
 obtain ⟨c0, c1⟩ := HQ.pt (.tail _ (.head _))
 have HQ1 := Lib.hid HQ
 clear HQ
 go_wp2_with fail
 go_at_call 9
 refine HIX.out.mono ?_
 rintro e w2 (⟨rfl, hb2⟩ | ⟨b, m1, m2, l', rfl, hb2, hck, ⟨h8, h3⟩, hpar, hbo, hro, hst, hlf, hrw⟩)
 ·have HBE := Lib.hid (HQ1.out.on hb2).1
  clear hb2 HIX c0 c1
  go_wp2_with fail
  refine bodyPost_ret (v := .bool true) ?_ rfl ⟨rfl, HBE.out⟩
  simp [results, Tryz.results7, go_sem]
 ·obtain ⟨hpq, hs, hnorm⟩ := plan_sorted3 hck hpar
  have H8 : Hid (l'.length ≤ 80) := by
   unfold Hid
   have := congrArg List.length hpar
   rw [List.length_map, List.length_map] at this
   omega
  have HS2 : Hid (St W1 b m1 m2 l' 0 w2) := ⟨hb2, hro, hst, hlf, hrw, hbo⟩
  have HSO := Lib.hid hs
  have HPQ := Lib.hid hpq
  have HNO := Lib.hid hnorm
  have HCH : Hid (∀ x ∈ l', chE x.par.ring = 0) := fun x hx => (hnorm x hx).1
  have HLO := Lib.hid (Locate_any b m1 m2 0 (by decide) l' hs HCH.out p w2 hro hst)
  obtain ⟨c0, c1⟩ := (HQ1.out.on hb2).pt (.head _)
  clear hb2 hbo hck h8 h3 hpar hro hst hlf hrw hpq hs hnorm HIX
  go_wp2_with fail
  go_at_call 10
  refine HLO.out.mono ?_
  rintro e w3 ⟨hg, hi, A, cap, rfl, hit, hna⟩
  have HS3 := Lib.hid (HS2.out.grown hg hi)
  have HIT := Lib.hid hit
  have HNA := Lib.hid hna
  have HWN := Lib.hid (Window_any b m1 m2 1 (by decide) l' HSO.out HCH.out p p w3 HS3.out.rings HS3.out.idx)
  obtain ⟨c0, c1⟩ := (HQ1.out.on HS3.out.below).pt (.head _)
  clear hg hi hit hna HLO
  rw [win_point, wn_point] at HWN
  go_wp2_with fail
  go_at_call 14
  refine HWN.out.mono ?_
  rintro e w4 ⟨hg, hi, A2, cap2, rfl, hit2, hnb⟩
  rw [show (1 + 1 : Int) = 2 from rfl] at hi
  have HS4 := Lib.hid (HS3.out.grown hg hi)
  have HI4 := Lib.hid ((HIT.out.but hg HNA.out).wide hg.size)
  have HSI := Lib.hid (fun W (hB : Below w4.heap.size w4 W) => ref_ints2 (locL l' p) (locL l' p) A A2 cap cap2 (by have := loc_len l' p; have := H8.out; omega) W (HI4.out.on hB) (hit2.on hB))
  rw [decide_eq_true rfl] at HSI
  clear hg hi hit2 hnb HIT HNA HWN
  generalize locL l' p = ll at *
  generalize atE p = ep at *
  go_wp2_with (go_at_call 13; refine (HSI.out _ (Below.refl _ _)).mono ?_; rintro e w5 ⟨rfl, hb5⟩; have HS5 := Lib.hid (HS4.out.on hb5); clear hb5)
  have HID : Hid (∀ x ∈ l', In64 x.par.id ∧ x.par.id ≠ 0) := fun x hx => ⟨by
   obtain ⟨es, c, _, _, _, hok⟩ := HS5.out.rings.map
   exact hok (x.par.id, x) (List.mem_map.2 ⟨x, hx, rfl⟩), by
   have := (HPQ.out.fine.2.1 x.par (List.mem_map_of_mem hx)).1
   intro e
   rw [e] at this
   exact absurd this (by decide)⟩
  have HSM : Hid (∀ x ∈ l', (∀ p ∈ x.par.ring, Gd p) ∧ x.par.ring.length ≤ 128) := fun x hx => ⟨(normP_small (HNO.out x hx)).2.2, (normP_small (HNO.out x hx)).2.1⟩
  obtain ⟨d, q, v, hblk⟩ := HS5.out.blk
  have HBL : Hid (b < w5.heap.size) := blk_lt hblk
  have HPP := Lib.hid (Pairs_any (ownL l') b m1 m2 d (.int .i32 0) q v 2 (by rw [IntKind.wrap_i64]; omega) (fun p hp => by
   obtain ⟨e, c⟩ := p
   obtain ⟨y, hy, rfl, -⟩ := mem_ownL2.1 hp
   exact (HID.out y hy).1) (by
   have := own_len (l := l') fun x hx => by have := (HSM.out x hx).2; omega
   have := H8.out
   omega) w5 hblk HS5.out.left (fun a b => ¬ LtP b a) (fun w0 W A m cap ll hll hr => (sortR_any w0 W A m cap ll hll hr).mono (by
    rintro e W' ⟨h1, zs, h2, h3, h4, -⟩
    exact ⟨h1, zs, h2, h3, h4⟩)))
  clear hblk
  refine HPP.out.mono ?_
  rintro e w6 ⟨vv, ss, rfl, hr, -, hnd, hmem⟩
  have HS6 := Lib.hid (HS5.out.count.on hr.1)
  obtain ⟨A3, c3, hv3, hit3, -⟩ := hr.items
  have HNC : Hid (∀ ad, A3 = some ad → some b ≠ some ad.block) := fun ad e e2 => by
   have h1 := hr.2.lt ad.block (by rw [hv3, e]; rfl)
   have := HBL.out
   have := Option.some.inj e2
   rw [World.size_setCell] at h1
   omega
  subst hv3
  have HI3 := Lib.hid hit3
  have HMM := Lib.hid hmem
  have HSL : Hid (ss.length ≤ 100000) := by
   have h1 := pr_few HS5.out.left.nodup (fun k h => (hmem k).1 h) hnd
   have := own_len (l := l') fun x hx => by have := (HSM.out x hx).2; omega
   have := H8.out
   unfold Hid
   omega
  have b8 : (ss.length : Int) ≤ 100000 := by have := HSL.out; omega
  clear hr hit3 hmem hnd HPP HBL HS5 HS4 HS3 HS2 HSI
  go_wp2_with fail
  go_loopg [13] ss.length (fun g i wr => ∃ k : Nat, k ≤ ss.length ∧ k ≤ 40 ∧ g = ss.length - k ∧ i = .int .i64 k ∧ St W1 b m1 m2 l' (3 + 2 * k) wr ∧ w6.grownBy wr (some b))
  case atStart => exact ⟨0, Nat.zero_le _, Nat.zero_le _, rfl, rfl, by simpa using HS6.out, World.grownBy.refl _ _⟩
  case round =>
   obtain ⟨k, hk, hk40, hgk, rfl, hst, hgr⟩ := hrel
   have HGK := Lib.hid hgk
   have HST := Lib.hid hst
   have HGR := Lib.hid hgr
   clear hgk hst hgr
   by_cases hkl : k < ss.length
   ·by_cases hk4 : k < 40
    ·have b1 : (k : Int) < (ss.length : Int) := by omega
     have b2 : (k : Int) < 40 := by omega
     have b01 : (0 : Int) ≤ (k : Int) := by omega
     obtain ⟨hz, hbd⟩ := pair_bd HPQ.out (a := ss[k].1) (c := ss[k].2) ((HMM.out ss[k]).1 (List.getElem_mem hkl))
     have HZ := Lib.hid hz
     have HBD := Lib.hid hbd
     obtain ⟨hz1, hz2, -⟩ := bd_zero hz
     have hi1 : In64 ss[k].1 := by
      obtain ⟨y, hy, e⟩ := List.mem_map.1 hz1
      obtain ⟨x, hx, rfl⟩ := List.mem_map.1 hy
      rw [← e]; exact (HID.out x hx).1
     have hi2 : In64 ss[k].2 := by
      obtain ⟨y, hy, e⟩ := List.mem_map.1 hz2
      obtain ⟨x, hx, rfl⟩ := List.mem_map.1 hy
      rw [← e]; exact (HID.out x hx).1
     have HIA := Lib.hid hi1
     have HIB := Lib.hid hi2
     obtain ⟨ad, rfl, -, -, -⟩ := Items.at kindR.len HI3.out hkl
     have HC : Hid (∀ W, w6.grownBy W (some b) → W.cell? (ad.add (k * 2)) = some (.int .i64 ss[k].1) ∧ W.cell? ⟨(ad.add (k * 2)).block, (ad.add (k * 2)).off + 1, none⟩ = some (.int .i64 ss[k].2)) := fun W hB => by
      obtain ⟨adA, e', -, h0, h1⟩ := Items.at kindR.len (HI3.out.but hB HNC.out) hkl
      obtain rfl := Option.some.inj e'
      exact ⟨h0 _ (by decide) rfl, h1 1 _ (by decide) (by decide) rfl⟩
     generalize ss[k] = kp at *
     clear hz hbd hz1 hz2 hi1 hi2
     go_wp2_with fail
     have HSD := Lib.hid (HST.out.on ((Below.refl wr.heap.size wr).drew))
     have HGD := Lib.hid (HGR.out.trans (grownBy_drew wr (some b)))
     refine wp_region_held_drew (S := fun W => W.cell? (ad.add (k * 2)) = some (.int .i64 kp.1) ∧ W.cell? ⟨(ad.add (k * 2)).block, (ad.add (k * 2)).off + 1, none⟩ = some (.int .i64 kp.2)) (by kernel_rfl) ?_ (fun hHeld => ?_)
     ·(try dsimp only)
      exact HC.out _ HGD.out
     generalize (World.drew _) = wd at HSD HGD hHeld ⊢
     obtain ⟨d', q', v', hhold⟩ := HSD.out.hold
     have HBO := Lib.hid (Border_any (l'.map PV.par) l' rfl b m1 m2 d' (.int .i32 0) q' v' (3 + 2 * k) kp.1 kp.2 (by rw [IntKind.wrap_i64]; omega) HIA.out HIB.out (fun x hx => by
      obtain ⟨y, hy, rfl⟩ := List.mem_map.1 hx
      exact (HID.out y hy).2) W1 wd hhold HSD.out.rings.map HSD.out.left HSD.out.own HSM.out)
     clear hhold
     refine tZ 0 ?_; refine tZ 1 ?_; refine tZ 2 ?_; refine tZ 3 ?_; refine tZ 4 ?_; refine tZ 5 ?_; refine tZ 6 ?_; refine tZ 7 ?_; refine tZ 8 ?_; refine tZ 9 ?_; refine tZ 10 ?_
     refine wpAnyH_ready (rs := [11]) (by decide +kernel) (by simp) ?_
     refine AllReadyH.cons rfl (fun K hK => ?_) AllReadyH.nil
     (try simp only [jA, jB, jC])
     go_simp
     go_at_call 19; refine HBO.out.mono ?_; rintro e' w7 ⟨hb7, hh⟩; obtain ⟨-, v1, v2, rfl, x, hx, hxa, hr1, -⟩ := hh.resolve_left (fun h => h.1 HZ.out); have HS7 := Lib.hid (HSD.out.count.on hb7); have HG7 := Lib.hid (HGD.out.trans ((set_grown wd b 6 _).trans (grown_below hb7 (some b)))); obtain ⟨A4, c4, rfl, hit4, -⟩ := hr1.items; have HI4 := Lib.hid hit4; have HBX := Lib.hid (HBD.out x hx hxa); clear hb7 hh hx hxa hr1 hit4
     refine hK.out _ _ ?_ (fun hHeld => ?_)
     focus ((try dsimp only); exact HC.out _ HG7.out; done)
     clear hK K
     (try simp only [Act.put, jA, jB, jC, jD, jE, jF])
     refine tZ 12 ?_; refine tZ 13 ?_; refine tZ 14 ?_; refine tZ 15 ?_; refine tZ 16 ?_; refine tZ 17 ?_; refine tZ 18 ?_
     refine wpAnyH_done (by decide +kernel) ?_ _
     clear hHeld HBD HBO
     obtain ⟨hne, hes⟩ := HBX.out
     have hpos := List.length_pos_iff.2 hne
     obtain ⟨ad4, rfl, -, j0, j1⟩ := Items.at kindG.len HI4.out hpos
     have d0 := j0 _ (by decide) rfl
     have d1 := j1 1 _ (by decide) (by decide) rfl
     obtain ⟨hgd, hla, hlc⟩ := hes _ (List.getElem_mem hpos)
     have e1 : (((bdL (ownL l') x.par.ring kp.2).length : Int) == 0) = false := by
      rw [beq_eq_false_iff_ne]
      omega
     have b3 : (0 : Int) < ((bdL (ownL l') x.par.ring kp.2).length : Int) := by omega
     have HLA := Lib.hid hla
     have HLC := Lib.hid hlc
     have HATG := Lib.hid (at_good hgd).2
     have HLO := Lib.hid (Locate_any b m1 m2 (3 + 2 * k + 1) (by rw [IntKind.wrap_i64]; omega) l' HSO.out HCH.out ((bdL (ownL l') x.par.ring kp.2)[0]).1 w7 HS7.out.rings HS7.out.idx)
     clear hne hes j0 j1 hgd hla hlc HBX HI4
     generalize (bdL (ownL l') x.par.ring kp.2)[0] = y at *
     generalize (bdL (ownL l') x.par.ring kp.2).length = en at *
     rw [Nat.zero_mul, add_zero_addr] at d0 d1
     go_wp2_with fail
     go_at_call 10
     refine HLO.out.mono ?_
     rintro e w8 ⟨hg, hi, A5, c5, rfl, hit, hnf⟩
     rw [HATG.out]
     have HS8 := Lib.hid (HS7.out.grown hg hi)
     have HG8 := Lib.hid (HG7.out.trans hg)
     have HI5 := Lib.hid hit
     have HL5 : Hid ((locL l' y.1).length ≤ 80) := Nat.le_trans (loc_len l' y.1) H8.out
     clear hg hi hit hnf HLO HATG d0 d1
     generalize locL l' y.1 = L2 at *
     have b5 : (L2.length : Int) ≤ 80 := by have := HL5.out; omega
     go_wp2_with fail
     go_loopg [19, 20, 21] L2.length (fun g s1 s2 i wx => ∃ (j : Nat) (f1 f2 : Bool), j ≤ L2.length ∧ g = L2.length - j ∧ i = .int .i64 j ∧ s1 = .bool f1 ∧ s2 = .bool f2 ∧ Hid (f1 = decide (kp.1 ∈ L2.take j)) ∧ Hid (f2 = decide (kp.2 ∈ L2.take j)) ∧ Below w8.heap.size w8 wx)
     case atStart => exact ⟨0, false, false, Nat.zero_le _, rfl, rfl, rfl, rfl, rfl, rfl, Below.refl _ _⟩
     case round =>
      obtain ⟨j, f1, f2, hj, hgj, rfl, rfl, rfl, HF1, HF2, hbx⟩ := hrel
      have HGJ := Lib.hid hgj
      have HBX := Lib.hid hbx
      clear hgj hbx
      by_cases hjl : j < L2.length
      ·have b6 : (j : Int) < (L2.length : Int) := by omega
       have b06 : (0 : Int) ≤ (j : Int) := by omega
       obtain ⟨ad5, rfl, -, -, -⟩ := Items.at kindN.len (HI5.out.on HBX.out) hjl
       have HK : Hid (∀ W, Below w8.heap.size w8 W → W.cell? (ad5.add j) = some (.int .i64 L2[j]) ∧ W.cell? (ad.add (k * 2)) = some (.int .i64 kp.1) ∧ W.cell? ⟨(ad.add (k * 2)).block, (ad.add (k * 2)).off + 1, none⟩ = some (.int .i64 kp.2)) := fun W hB => by
        obtain ⟨adA, e', -, i0, -⟩ := Items.at kindN.len (HI5.out.on hB) hjl
        obtain rfl := Option.some.inj e'
        have i0 := i0 _ (by decide) rfl
        rw [Nat.mul_one] at i0
        exact ⟨i0, HC.out _ (HG8.out.trans (grown_below hB (some b)))⟩
       have HT1 := Lib.hid (take_mem hjl kp.1)
       have HT2 := Lib.hid (take_mem hjl kp.2)
       generalize L2[j] = z at *
       cases f1 <;> cases f2
       all_goals
        go_wp2_with fail
        refine wp_region_held_drew (S := fun W => W.cell? (ad5.add j) = some (.int .i64 z) ∧ W.cell? (ad.add (k * 2)) = some (.int .i64 kp.1) ∧ W.cell? ⟨(ad.add (k * 2)).block, (ad.add (k * 2)).off + 1, none⟩ = some (.int .i64 kp.2)) (by kernel_rfl) ?_ (fun hHeld => ?_)
        ·(try dsimp only)
         exact HK.out _ HBX.out.drew
        replace HBX := Lib.hid HBX.out.drew
        generalize (World.drew _) = wd at HBX hHeld ⊢
        first
         |skip
          refine tZ 0 ?_; refine tZ 1 ?_; refine tZ 2 ?_; refine tZ 3 ?_; refine tZ 4 ?_; refine tZ 5 ?_; refine tZ 6 ?_; refine tZ 7 ?_; refine tZ 8 ?_; refine tZ 9 ?_; refine tZ 10 ?_; refine tZ 11 ?_; refine tZ 12 ?_; refine tZ 13 ?_
         |skip
          refine tZ 0 ?_; refine tZ 1 ?_; refine pZ 2 ?_; refine pZ 3 ?_; refine pZ 4 ?_; refine pZ 5 ?_; refine pZ 6 ?_; refine pZ 7 ?_; refine pZ 8 ?_; refine pZ 9 ?_; refine pZ 10 ?_; refine pZ 11 ?_; refine tZ 12 ?_; refine tZ 13 ?_
        refine wpAnyH_done (by decide +kernel) ?_ _
        clear hHeld
        go_wp2_with fail
        refine wp_region_held_drew (S := fun W => W.cell? (ad5.add j) = some (.int .i64 z) ∧ W.cell? (ad.add (k * 2)) = some (.int .i64 kp.1) ∧ W.cell? ⟨(ad.add (k * 2)).block, (ad.add (k * 2)).off + 1, none⟩ = some (.int .i64 kp.2)) (by kernel_rfl) ?_ (fun hHeld => ?_)
        ·(try dsimp only)
         exact HK.out _ HBX.out.drew
        replace HBX := Lib.hid HBX.out.drew
        generalize (World.drew _) = wd at HBX hHeld ⊢
        first
         |skip
          refine tZ 0 ?_; refine tZ 1 ?_; refine tZ 2 ?_; refine tZ 3 ?_; refine tZ 4 ?_; refine tZ 5 ?_; refine tZ 6 ?_; refine tZ 7 ?_; refine tZ 8 ?_; refine tZ 9 ?_; refine tZ 10 ?_; refine tZ 11 ?_; refine tZ 12 ?_; refine tZ 13 ?_
         |skip
          refine tZ 0 ?_; refine tZ 1 ?_; refine pZ 2 ?_; refine pZ 3 ?_; refine pZ 4 ?_; refine pZ 5 ?_; refine pZ 6 ?_; refine pZ 7 ?_; refine pZ 8 ?_; refine pZ 9 ?_; refine pZ 10 ?_; refine pZ 11 ?_; refine tZ 12 ?_; refine tZ 13 ?_
        refine wpAnyH_done (by decide +kernel) ?_ _
        clear hHeld
        go_wp2_with fail
        go_roundg (L2.length - (j + 1))
        case measure => have := HGJ.out; omega
        case rel => exact ⟨j + 1, _, _, by omega, rfl, by go_num, rfl, rfl, by unfold Hid; rw [HT1.out, ← HF1.out]; simp, by unfold Hid; rw [HT2.out, ← HF2.out]; simp, HBX.out⟩
      ·obtain rfl : j = L2.length := by omega
       have b6 : ¬ (L2.length : Int) < (L2.length : Int) := by omega
       obtain rfl : f1 = true := by rw [HF1.out, List.take_length]; exact decide_eq_true HLA.out
       obtain rfl : f2 = true := by rw [HF2.out, List.take_length]; exact decide_eq_true HLC.out
       have HS9 := Lib.hid (HS8.out.on HBX.out)
       have HG9 := Lib.hid (HG8.out.trans (grown_below HBX.out (some b)))
       have HNE : Hid ((3 + 2 * (k : Int) + 1 + 1) = 3 + 2 * ((k + 1 : Nat) : Int)) := by unfold Hid; omega
       go_wp2_with fail
       go_roundg (ss.length - (k + 1))
       case measure => have := HGK.out; omega
       case rel => exact ⟨k + 1, by omega, by omega, rfl, by go_num, by rw [← HNE.out]; exact HS9.out, HG9.out⟩
    ·obtain rfl : k = 40 := by omega
     have b1 : ((40 : Nat) : Int) < (ss.length : Int) := by omega
     have HBE := Lib.hid (HQ1.out.on HST.out.below).1
     go_wp2_with fail
     refine bodyPost_ret (v := .bool true) ?_ rfl ⟨rfl, HBE.out⟩
     simp [results, Tryz.results7, go_sem]
   ·have b1 : ¬ (k : Int) < (ss.length : Int) := by omega
    have HBE := Lib.hid (HQ1.out.on HST.out.below).1
    go_wp2_with fail
    refine bodyPost_ret (v := .bool true) ?_ rfl ⟨rfl, HBE.out⟩
    simp [results, Tryz.results7, go_sem]
end Go.Proofs.YtoabooljgojoiaaGreat

set_option maxRecDepth 100000
namespace Go.Proofs.YtoabooljgojoiaaGreat.queryPoints
open Go.Joins Go.ChangeShapes Go.WideShapes Go.ChangeAt Go.RowKit

theorem contract (H : Type) (enc : TypeId × Value → H) (W : World) (base : Nat) (args : Array Value) (ds gs : List (DataW H)) (before : List MemPlace)
  (hval : ∀ (j : Nat) t v, Tryz.f7.params[j]? = some t → args[j]? = some v → Value.okWide Tryz.prog W .any base t v)
  (hW : DataW.Whole enc Tryz.prog Tryz.f7.params.toList Rows.queryPointsSpec.vars false W args.toList ds gs before)
  (hsz : (DataW.weightsEach Tryz.prog (Tryz.f7.params.toList ++ (OpenSpec.ofChange Rows.queryPointsSpec).bare.plain.varTypes Tryz.prog) (ds ++ gs)).all (· ≤ reachBytes) = true) :
  Calls Tryz.prog 7 args W fun e W' => ∃ v, e = .returned v ∧ Rows.queryPointsSpec.post enc Tryz.prog Tryz.f7 false true false false W args v W' := by
 have hW' := hW
 have hlt := fun p hp => hW.lt p hp
 obtain ⟨p, q, hA0, hV, rfl, -, -⟩ := hW
 have hA : DataW.TrodAll enc Tryz.prog W 0 (fun _ => true) true Tryz.f7.params.toList args.toList ds p := hA0
 rw [Tryz.params7] at hA hval
 obtain ⟨v0, vs0, d0, ds0, p0, q0, hargs, rfl, rfl, h0, r0⟩ := trodAll_cons hA
 obtain ⟨v1, vs1, d1, ds1, p1, q1, rfl, rfl, rfl, h1, r1⟩ := trodAll_cons r0
 obtain ⟨rfl, rfl, rfl⟩ := trodAll_nil r1
 obtain rfl : args = #[v0, v1] := by cases args; simp_all
 obtain ⟨rfl, rfl⟩ := trodVars_none hV
 have hl0 : ∀ q ∈ p0, q.block < W.heap.size := fun q hq => hlt q (by simp [hq])
 have hl1 : ∀ q ∈ p1, q.block < W.heap.size := fun q hq => hlt q (by simp [hq])
 obtain ⟨o, Ao, co, p, Ap, cp, rfl, hown, hpl⟩ := open_plan (hval 0 26 v0 rfl rfl) h0
 obtain ⟨hl, hat⟩ := hpl fun k hk => of_decide_eq_true (List.all_eq_true.1 hsz _ (DataW.weights_mem_each (j := 0) (t := 26) (by rw [Tryz.params7]; rfl) rfl k hk))
 obtain ⟨pt, rfl, -, -, wpt⟩ := open_point (hval 1 28 v1 rfl rfl) h1
 clear hA0
 refine (points_walk o Ao co p Ap cp (by have := hat.room; omega) hown pt W hat).mono fun e W' ⟨he, hb⟩ => ?_
 subst he
 exact ⟨_, rfl, post_under (pa := (p0 ++ (p1 ++ []))) (pv := []) hW' (fun _ _ _ => trodAll_cons_mk (shut_bool Tryz.underlying4 _) trodAll_mk0)
  (fun _ hs => (trodAll_cons_mk (again (by kernel_rfl) (of_decide_eq_true (by kernel_rfl)) h0 hb hl0 (fun q hq => hs q (by simp [hq]))) (trodAll_cons_mk (again (by kernel_rfl) (of_decide_eq_true (by kernel_rfl)) h1 hb hl1 (fun q hq => hs q (by simp [hq]))) trodAll_mk0))) (fun _ _ => rfl) (by simp)
  hb (ok_one (by kernel_rfl) rfl (okWide_bool_mk Tryz.underlying4 _))⟩

noncomputable def wit : Array Value := #[.agg #[.slice none 0 0, .slice none 0 0], .agg #[.int .i64 0, .int .i64 0]]
theorem reads (os : Os) {H : Type} (enc : TypeId × Value → H) : ∃ places, DataW.whole enc Tryz.prog ((World.holding Tryz.prog os ⟨#[], #[], []⟩).forCall (fun _ _ => 0) ⟨#[], wit, []⟩).memory Tryz.f7.params.toList Rows.queryPointsSpec.vars false wit.toList 8 = some ([.agg [.nil, .nil], .agg [.lit (.int .i64 0), .lit (.int .i64 0)]], [], places) :=
 ⟨[], by kernel_rfl⟩

theorem laid_met (os : Os) : laidMet Tryz.prog Rows.queryPointsRow.laid ((World.holding Tryz.prog os ⟨#[], #[], []⟩).forCall (fun _ _ => 0) ⟨#[], wit, []⟩).memory :=
 laidMet_of_run' 8 (by kernel_rfl) (by kernel_rfl)

set_option maxRecDepth 100000 in
theorem lifted (os : Os) (started : os.Started) (H : Type) (enc : TypeId × Value → H) (F : Stop.Interp) :
  ReturnsInHanded {} Tryz.checked os 7 .any ((OpenSpec.ofChange Rows.queryPointsSpec).preRow enc Tryz.prog Tryz.f7 Rows.queryPointsRow.domain false Rows.queryPointsRow.laid) (((OpenSpec.ofChange Rows.queryPointsSpec).at F).post enc Tryz.prog Tryz.f7 false true false false) := by
 obtain ⟨places, hx⟩ := reads os enc
 refine returnsInHanded_of_row (C := Tryz.checked) (s := OpenSpec.ofChange Rows.queryPointsSpec) own started (by kernel_rfl) Tryz.func7
  (witness_row_at (enc := enc) (C := Tryz.checked) false (World.holding Tryz.prog os ⟨#[], #[], []⟩) wit rfl (by kernel_rfl) (by kernel_rfl) (by kernel_rfl)
   (OpenSpec.preRow_of_cond 8 hx (by kernel_rfl) (fun k hk => by cases hk) (by kernel_rfl) (laid_met os))) ?_
 intro W base args ds gs before hval hW _ _ hsz _ _ _
 exact contract H enc W base args ds gs before hval hW hsz

theorem said : Rows.QueryPointsSaid :=
 OpenClaim.holds_of_cond 7 Tryz.f7 rfl rfl rfl rfl rfl rfl rfl ⟨rfl, rfl, rfl, rfl, rfl⟩ rfl rfl rfl rfl rfl (by kernel_rfl) Tryz.func7 (by kernel_rfl)
  (of_decide_eq_true (by kernel_rfl)) (by unfold Func.isWrapper; first | (rw [if_pos (by decide +kernel)]; kernel_rfl) | (rw [if_neg (by decide +kernel)]; exact ⟨rfl, rfl⟩))
  (fun os started H enc _ F => by rw [OpenClaim.pre_eq_preRow]; exact lifted os started H enc F)
end Go.Proofs.YtoabooljgojoiaaGreat.queryPoints
