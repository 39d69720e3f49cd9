/- Proved: for all plans p the law QueryPairs answers true, and p reads behind the call as before: which parcels have a border in common, each pair once and in order, is what the document asks. No condition narrows the input. -/
import Derived.Test.YtoabooljgojoiaaGreatQSrt
import Derived.Test.YtoabooljgojoiaaGreatQInd
import Derived.Test.YtoabooljgojoiaaGreatQShar
import Derived.Test.YtoabooljgojoiaaGreatOpenQ
/- The walk of the law QueryPairs. -/
namespace Go.Proofs.YtoabooljgojoiaaGreat
open Go.RowKit

theorem mem_ownL2 {l : List PV} {e : EdT} {c : Int} : (e, c) ∈ ownL l ↔ ∃ y ∈ l, y.par.id = c ∧ e ∈ edg y.par.ring := by
 unfold ownL
 rw [List.mem_flatMap]
 constructor
 ·rintro ⟨y, hy, h⟩
  obtain ⟨e', he, h2⟩ := List.mem_map.1 h
  injection h2 with h3 h4
  subst h3 h4
  exact ⟨y, hy, rfl, he⟩
 ·rintro ⟨y, hy, rfl, he⟩
  exact ⟨y, hy, List.mem_map.2 ⟨e, he, rfl⟩⟩
theorem plan_sorted2 {o : List (Int × Int)} {l : List PV} (h : PlanQ o (l.map PV.par)) : l.Pairwise fun a b => a.par.id < b.par.id := by
 have h1 := h.fine.1
 rwa [List.pairwise_map] at h1
def prB (x y : PV) : Bool := decide (x.par.id < y.par.id) && !(shL x.par.ring y.par.ring).isEmpty
def prow (l : List PV) (x : PV) (j : Nat) : List (Int × Int) := ((l.take j).filter (prB x)).map fun y => (x.par.id, y.par.id)
def pall (l : List PV) (i : Nat) : List (Int × Int) := (l.take i).flatMap fun x => prow l x l.length
theorem prow_succ {l : List PV} {x : PV} {j : Nat} (h : j < l.length) : prow l x (j + 1) = prow l x j ++ if prB x l[j] then [(x.par.id, l[j].par.id)] else [] := by
 unfold prow
 rw [List.take_succ_eq_append_getElem h, List.filter_append, List.map_append]
 congr 1
 by_cases hb : prB x l[j] = true
 ·rw [if_pos hb, List.filter_cons_of_pos hb]; rfl
 ·rw [if_neg hb, List.filter_cons_of_neg hb]; rfl
theorem pall_succ {l : List PV} {i : Nat} (h : i < l.length) : pall l (i + 1) = pall l i ++ prow l l[i] l.length := by
 unfold pall
 rw [List.take_succ_eq_append_getElem h, List.flatMap_append]
 simp
theorem prow_start {l : List PV} (hs : l.Pairwise fun a b => a.par.id < b.par.id) {i : Nat} (h : i < l.length) : prow l l[i] (i + 1) = [] := by
 unfold prow
 rw [List.map_eq_nil_iff, List.filter_eq_nil_iff]
 intro y hy
 obtain ⟨k, hk, rfl⟩ := List.getElem_of_mem hy
 rw [List.length_take] at hk
 rw [List.getElem_take]
 unfold prB
 have : ¬ l[i].par.id < l[k].par.id := by
  rcases Nat.lt_or_eq_of_le (show k ≤ i by omega) with h1 | h1
  ·have := List.pairwise_iff_getElem.1 hs k i (by omega) h h1
   omega
  ·subst h1; omega
 simp [this]
theorem prow_pre {l : List PV} {x : PV} {j : Nat} (h : j < l.length) (hb : prB x l[j] = true) : ∃ r, prow l x l.length = prow l x j ++ (x.par.id, l[j].par.id) :: r := by
 refine ⟨((l.drop (j + 1)).filter (prB x)).map fun y => (x.par.id, y.par.id), ?_⟩
 unfold prow
 rw [List.take_length]
 conv => lhs; rw [← List.take_append_drop j l, List.drop_eq_getElem_cons h]
 rw [List.filter_append, List.map_append, List.filter_cons_of_pos hb]
 rfl
theorem pall_pre {l : List PV} {i : Nat} (h : i < l.length) : ∃ r, pall l l.length = pall l i ++ prow l l[i] l.length ++ r := by
 refine ⟨(l.drop (i + 1)).flatMap fun x => prow l x l.length, ?_⟩
 unfold pall
 rw [List.take_length]
 conv => lhs; rw [← List.take_append_drop i l, List.drop_eq_getElem_cons h]
 rw [List.flatMap_append, List.flatMap_cons, List.append_assoc]
 simp
theorem pr_there {l : List PV} {i j : Nat} (hi : i < l.length) (hj : j < l.length) (hb : prB l[i] l[j] = true) : ∃ r, pall l l.length = (pall l i ++ prow l l[i] j) ++ (l[i].par.id, l[j].par.id) :: r := by
 obtain ⟨r1, h1⟩ := pall_pre hi
 obtain ⟨r2, h2⟩ := prow_pre hj hb
 exact ⟨r2 ++ r1, by rw [h1, h2]; simp⟩
theorem lt_eq : ∀ {a b : List (Int × Int)}, a.Pairwise LtP → b.Pairwise LtP → (∀ k, k ∈ a ↔ k ∈ b) → a = b
 |[], [], _, _, _ => rfl
 |[], y :: b, _, _, h => absurd ((h y).2 List.mem_cons_self) (by simp)
 |x :: a, [], _, _, h => absurd ((h x).1 List.mem_cons_self) (by simp)
 |x :: a, y :: b, ha, hb, h => by
  obtain ⟨ha1, ha2⟩ := List.pairwise_cons.1 ha
  obtain ⟨hb1, hb2⟩ := List.pairwise_cons.1 hb
  have hxy : x = y := by
   rcases List.mem_cons.1 ((h x).1 List.mem_cons_self) with e | h1
   ·exact e
   ·rcases List.mem_cons.1 ((h y).2 List.mem_cons_self) with e | h2
    ·exact e.symm
    ·have := hb1 x h1
     have := ha1 y h2
     unfold LtP at *
     omega
  subst hxy
  rw [lt_eq ha2 hb2 fun k => ?_]
  constructor
  ·intro hk
   rcases List.mem_cons.1 ((h k).1 (List.mem_cons_of_mem _ hk)) with rfl | h1
   ·have := ha1 k hk; unfold LtP at this; omega
   ·exact h1
  ·intro hk
   rcases List.mem_cons.1 ((h k).2 (List.mem_cons_of_mem _ hk)) with rfl | h1
   ·have := hb1 k hk; unfold LtP at this; omega
   ·exact h1
theorem pall_sorted {l : List PV} (hs : l.Pairwise fun a b => a.par.id < b.par.id) : (pall l l.length).Pairwise LtP := by
 unfold pall
 rw [List.take_length, List.pairwise_flatMap]
 refine ⟨fun x _ => ?_, hs.imp ?_⟩
 ·unfold prow
  rw [List.take_length, List.pairwise_map]
  exact (List.Pairwise.filter _ hs).imp fun h => .inr ⟨rfl, h⟩
 ·intro x y h k hk k' hk'
  unfold prow at hk hk'
  obtain ⟨_, -, rfl⟩ := List.mem_map.1 hk
  obtain ⟨_, -, rfl⟩ := List.mem_map.1 hk'
  exact .inl h
theorem mem_pall {l : List PV} {k : Int × Int} : k ∈ pall l l.length ↔ ∃ p ∈ ownL l, prAt (ownL l) p k := by
 unfold pall prow
 rw [List.take_length, List.mem_flatMap]
 constructor
 ·rintro ⟨x, hx, hk⟩
  obtain ⟨y, hy, rfl⟩ := List.mem_map.1 hk
  obtain ⟨hy1, hy2⟩ := List.mem_filter.1 hy
  unfold prB at hy2
  rw [Bool.and_eq_true, decide_eq_true_iff] at hy2
  obtain ⟨h1, h2⟩ := hy2
  obtain ⟨e, he⟩ : ∃ e, e ∈ shL x.par.ring y.par.ring := by
   cases hsh : shL x.par.ring y.par.ring with
   |nil => rw [hsh] at h2; cases h2
   |cons e t => exact ⟨e, .head _⟩
  obtain ⟨he1, he2⟩ := List.mem_filter.1 he
  exact ⟨(e, x.par.id), mem_ownL2.2 ⟨x, hx, rfl, he1⟩, y.par.id, mem_ownL2.2 ⟨y, hy1, rfl, of_decide_eq_true he2⟩, h1, rfl⟩
 ·rintro ⟨⟨e, a⟩, hp, c, hc, hlt, rfl⟩
  obtain ⟨x, hx, rfl, he⟩ := mem_ownL2.1 hp
  obtain ⟨y, hy, rfl, he2⟩ := mem_ownL2.1 hc
  refine ⟨x, hx, List.mem_map.2 ⟨y, List.mem_filter.2 ⟨hy, ?_⟩, rfl⟩⟩
  unfold prB
  rw [Bool.and_eq_true, decide_eq_true_iff]
  refine ⟨hlt, ?_⟩
  have : e ∈ shL x.par.ring y.par.ring := List.mem_filter.2 ⟨he, decide_eq_true he2⟩
  cases hsh : shL x.par.ring y.par.ring with
  |nil => rw [hsh] at this; cases this
  |cons _ _ => rfl
theorem own_len {l : List PV} (h : ∀ x ∈ l, x.par.ring.length ≤ 1000) : (ownL l).length ≤ l.length * 1000 := by
 unfold ownL
 induction l with
 |nil => exact Nat.zero_le _
 |cons x l ih =>
  have h1 := ih fun y hy => h y (List.mem_cons_of_mem _ hy)
  have h2 := h x List.mem_cons_self
  rw [List.flatMap_cons, List.length_append, List.length_map, edg_len, List.length_cons]
  omega
theorem pall_len {l : List PV} (h : l.length ≤ 80) : (pall l l.length).length ≤ 80 * 80 := by
 unfold pall
 rw [List.take_length]
 have hr : ∀ x, (prow l x l.length).length ≤ 80 := fun x => by
  unfold prow
  rw [List.length_map]
  refine Nat.le_trans (List.length_filter_le _ _) ?_
  rw [List.take_length]
  exact h
 have : ∀ m : List PV, (m.flatMap fun x => prow l x l.length).length ≤ m.length * 80 := fun m => by
  induction m with
  |nil => exact Nat.zero_le _
  |cons x m ih =>
   have := hr x
   rw [List.flatMap_cons, List.length_append, List.length_cons]
   omega
 have := this l
 omega
theorem strict_of {ss : List (Int × Int)} (h : ss.Pairwise fun a b => ¬ LtP b a) (hn : ss.Nodup) : ss.Pairwise LtP := by
 refine (h.and hn).imp ?_
 rintro a b ⟨h1, h2⟩
 unfold LtP at *
 have : ¬ (a.1 = b.1 ∧ a.2 = b.2) := fun h => h2 (Prod.ext h.1 h.2)
 omega
set_option maxRecDepth 100000 in
set_option maxHeartbeats 8000000 in
theorem pairs_walk (o : List (Int × Int)) (Ao : Option Addr) (co : Nat) (l : List PV) (Ap : Option Addr) (cp : Nat) (ho : o.length ≤ 8796093022208) (hown : ∀ x ∈ l, x.par.own.size ≤ maxLen) (w : World) (h : PlanAt w o Ao co l Ap cp) :
  Calls Tryz.prog 5 #[.agg #[.slice Ao o.length co, .slice Ap l.length cp]] w fun e w' => e = .returned (.bool true) ∧ Below w.heap.size w w' := by
 have HQ := (Hold.refl w).new #[.slice Ao o.length co, .slice Ap l.length cp] 26
 have HPA := Lib.hid (fun W (hb : Below w.heap.size w W) => h.on hb)
 have HPR := Lib.hid (fun W (hb : Below w.heap.size w W) => h.prs.on hb)
 have HO := Lib.hid ho
 have HOW := Lib.hid hown
 clear h ho hown
 go_enter Tryz.func5, Tryz.ntmps5
 go_upto_region 1 with (fail)
 generalize (World.alloc _ _) = W1 at HQ ⊢
 obtain ⟨g0, hg0⟩ : ∃ g, w.heap.size = g := ⟨_, rfl⟩
 rw [hg0] at HQ ⊢
 have HG0 := Lib.hid hg0
 clear hg0
 have HIX := Lib.hid (qindex_any o Ao co l Ap cp HO.out HOW.out W1 (HPA.out W1 HQ.1))
 obtain ⟨c0, c1⟩ := HQ.pt (.head _)
 have HQ1 := Lib.hid HQ
 clear HQ
 go_wp2_with fail
 go_at_call 9
 refine HIX.out.mono ?_
 rintro e w2 (⟨rfl, hb2⟩ | ⟨b, m1, m2, l', rfl, hb2, hck, ⟨h8, h3⟩, hpar, hbo, hro, hst, hlf, hrw⟩)
 ·have HBE := Lib.hid (HQ1.out.on hb2).1
  clear hb2 HIX c0 c1
  go_wp2_with fail
  refine bodyPost_ret (v := .bool true) ?_ rfl ⟨rfl, HBE.out⟩
  simp [results, Tryz.results5, go_sem]
 ·have hpq := chkB_plan.1 hck
  obtain ⟨d, q, v, hblk⟩ := hst.block
  have hsm : ∀ x ∈ l, x.par.ring.length ≤ 128 := fun x hx => (normP_small (hpq.each _ (List.mem_map_of_mem hx))).2.1
  have hidl : ∀ x ∈ l, In64 x.par.id := fun x hx => by
   obtain ⟨y, hy, e⟩ : ∃ y ∈ l', y.par = x.par := by
    have h1 : x.par ∈ l.map PV.par := List.mem_map_of_mem hx
    rw [← hpar] at h1
    exact List.mem_map.1 h1
   obtain ⟨es, c, _, _, _, hok⟩ := hro.map
   have := hok (y.par.id, y) (List.mem_map.2 ⟨y, hy, rfl⟩)
   rwa [e] at this
  have hpp := Pairs_any (ownL l') b m1 m2 d (.int .i32 0) q v 0 (by rw [IntKind.wrap_i64]; omega) (fun p hp => by
   obtain ⟨e, c⟩ := p
   rw [ownL_par hpar] at hp
   obtain ⟨y, hy, rfl, -⟩ := mem_ownL2.1 hp
   exact hidl y hy) (by
   rw [ownL_par hpar]
   have := own_len (l := l) fun x hx => by have := hsm x hx; omega
   omega) w2 hblk hlf (fun a b => ¬ LtP b a) (fun w0 W A m cap ll hll hr => (sortR_any w0 W A m cap ll hll hr).mono (by
    rintro e W' ⟨h1, zs, h2, h3, h4, -⟩
    exact ⟨h1, zs, h2, h3, h4⟩))
  have HPP := Lib.hid hpp
  have HB2 := Lib.hid hb2
  have HBO := Lib.hid hbo
  have HSO := Lib.hid (plan_sorted2 hpq)
  have HSM := Lib.hid hsm
  have H8 := Lib.hid h8
  have HPAR := Lib.hid hpar
  have HQ2 := Lib.hid (HQ1.out.on hb2)
  clear hb2 hbo hblk hpq hpar h8 h3 hck hro hst hlf hrw hpp HIX c0 c1 hsm hidl
  go_wp2_with fail
  go_at_call 17
  have hb2' := HB2.out.setCell (p := ⟨b, 6, none⟩) HBO.out (.int .i64 (0 + 1))
  refine HPP.out.mono ?_
  rintro e w3 ⟨vv, ss, rfl, hr, hlt, hnd, hmem⟩
  have hb3 := hb2'.trans (hr.1.mono hb2'.size)
  have hss : ss = pall l l.length := lt_eq (strict_of hlt hnd) (pall_sorted HSO.out) fun k => by
   rw [hmem k, mem_pall, ownL_par HPAR.out]
  subst hss
  obtain ⟨A, cap, rfl, hit, -⟩ := hr.items
  have HIT := Lib.hid hit
  have HQ3 := Lib.hid (HQ1.out.on hb3)
  clear hr hlt hnd hmem hit hb2' hb3 HPP HB2 HBO HPAR HQ2
  obtain ⟨c0, c1⟩ := HQ3.out.pt (.head _)
  have hSL : (pall l l.length).length ≤ 80 * 80 := pall_len H8.out
  have HSL := Lib.hid hSL
  have b9 : (l.length : Int) ≤ 80 := by have := H8.out; omega
  have b8 : ((pall l l.length).length : Int) ≤ 6400 := by omega
  clear hSL
  go_wp2_with fail
  clear c0 c1
  go_loopg [7, 8] l.length (fun g t i wr => ∃ k : Nat, k ≤ l.length ∧ g = l.length - k ∧ t = .int .i64 ((pall l k).length : Nat) ∧ i = .int .i64 k ∧ Below w3.heap.size w3 wr)
  case atStart => exact ⟨0, Nat.zero_le _, rfl, by simp [pall], rfl, Below.refl _ _⟩
  case round =>
   obtain ⟨k, hk, hgk, rfl, rfl, hbr⟩ := hrel
   have HGK := Lib.hid hgk
   have HBR := Lib.hid hbr
   obtain ⟨c0, c1⟩ := (HQ3.out.on hbr).pt (.head _)
   clear hgk hbr
   by_cases hkl : k < l.length
   ·have b0 : (k : Int) < (l.length : Int) := by omega
    go_wp2_with fail
    clear c0 c1
    go_loopg [7, 9] (l.length - (k + 1)) (fun g t j wr => ∃ c T : Nat, k + 1 ≤ c ∧ c ≤ l.length ∧ g = l.length - c ∧ Hid (T = (pall l k).length + (prow l l[k] c).length) ∧ t = .int .i64 T ∧ j = .int .i64 c ∧ Below w3.heap.size w3 wr)
    case atStart => exact ⟨k + 1, (pall l k).length, Nat.le_refl _, hkl, rfl, by unfold Hid; rw [prow_start HSO.out hkl]; rfl, rfl, by go_num, HBR.out⟩
    case round =>
     obtain ⟨c, T, hc1, hc2, hgc, HT, rfl, rfl, hbr⟩ := hrel
     have HGC := Lib.hid hgc
     have HBC := Lib.hid hbr
     have HQ4 := Lib.hid (HQ3.out.on hbr)
     obtain ⟨c0, c1⟩ := HQ4.out.pt (.head _)
     clear hgc hbr HBR
     by_cases hcl : c < l.length
     ·have b1 : (c : Int) < (l.length : Int) := by omega
      have b01 : (0 : Int) ≤ (k : Int) := by omega
      have b02 : (0 : Int) ≤ (c : Int) := by omega
      have hm1 := List.getElem_mem hkl
      have hm2 := List.getElem_mem hcl
      have hn1 := HSM.out _ hm1
      have hn2 := HSM.out _ hm2
      obtain ⟨ad, rfl, -⟩ := (HPR.out _ HQ4.out.1).at hkl
      have HD : Hid (∀ W, Below w3.heap.size w3 W → W.cell? ⟨g0, 1, none⟩ = some (.slice (some ad) l.length cp) ∧ (W.cell? (ad.add (k * 3)) = some (.int .i64 l[k].par.id) ∧ W.cell? ⟨(ad.add (k * 3)).block, (ad.add (k * 3)).off + 1, none⟩ = some (.slice l[k].A l[k].par.ring.length l[k].cap)) ∧ (W.cell? (ad.add (c * 3)) = some (.int .i64 l[c].par.id) ∧ W.cell? ⟨(ad.add (c * 3)).block, (ad.add (c * 3)).off + 1, none⟩ = some (.slice l[c].A l[c].par.ring.length l[c].cap))) := fun W hB => by
       have hp := HPR.out W (HQ3.out.on hB).1
       obtain ⟨ad', e, -, a0, a1, -⟩ := hp.at hkl
       obtain rfl := Option.some.inj e
       obtain ⟨ad'', e, -, d0, d1, -⟩ := hp.at hcl
       obtain rfl := Option.some.inj e
       exact ⟨((HQ3.out.on hB).pt (.head _)).2, ⟨a0, a1⟩, d0, d1⟩
      have HSH := Lib.hid (fun W (hB : Below w3.heap.size w3 W) => sharedL_any l[k].par.ring l[c].par.ring l[k].A l[c].A l[k].cap l[c].cap (by omega) (by omega) W ((HPR.out W (HQ3.out.on hB).1).2 l[k] hm1).1 ((HPR.out W (HQ3.out.on hB).1).2 l[c] hm2).1)
      have hpb : prB l[k] l[c] = !(shL l[k].par.ring l[c].par.ring).isEmpty := by
       unfold prB
       rw [decide_eq_true (List.pairwise_iff_getElem.1 HSO.out k c hkl hcl hc1), Bool.true_and]
      have HTH := Lib.hid (pr_there hkl hcl)
      have HPS := Lib.hid (prow_succ (x := l[k]) hcl)
      rw [hpb] at HTH HPS
      have HBL : Hid ((shL l[k].par.ring l[c].par.ring).length ≤ 128) := by
       have := List.length_filter_le (fun e => decide (bk e ∈ edg l[c].par.ring)) (edg l[k].par.ring)
       rw [edg_len] at this
       exact Nat.le_trans this hn1
      have HPZ := Lib.hid (pall_succ hkl)
      clear hpb hm1 hm2 hn1 hn2
      go_wp2_with fail
      refine wp_region_held_drew (S := fun W => W.cell? ⟨g0, 1, none⟩ = some (.slice (some ad) l.length cp) ∧ (W.cell? (ad.add (k * 3)) = some (.int .i64 l[k].par.id) ∧ W.cell? ⟨(ad.add (k * 3)).block, (ad.add (k * 3)).off + 1, none⟩ = some (.slice l[k].A l[k].par.ring.length l[k].cap)) ∧ (W.cell? (ad.add (c * 3)) = some (.int .i64 l[c].par.id) ∧ W.cell? ⟨(ad.add (c * 3)).block, (ad.add (c * 3)).off + 1, none⟩ = some (.slice l[c].A l[c].par.ring.length l[c].cap))) (by kernel_rfl) ?_ (fun hHeld => ?_)
      ·(try dsimp only)
       exact HD.out _ HBC.out.drew
      have HW7 := Lib.hid HBC.out.drew
      clear c0 c1
      generalize (World.drew _) = w7 at HW7 hHeld ⊢
      refine tZ 0 ?_; refine tZ 1 ?_; refine tZ 2 ?_; refine tZ 3 ?_; refine tZ 4 ?_; refine tZ 5 ?_; refine tZ 6 ?_; refine tZ 7 ?_; refine tZ 8 ?_; refine tZ 9 ?_; refine tZ 10 ?_; refine tZ 11 ?_
      refine wpAnyH_ready (rs := [12]) (by decide +kernel) (by simp) ?_
      refine AllReadyH.cons rfl (fun K hK => ?_) AllReadyH.nil
      (try simp only [jA, jB, jC])
      go_simp
      go_at_call 18; refine (HSH.out _ HW7.out).mono ?_; rintro e' w8 ⟨v3, rfl, hr3⟩; have HW8 := Lib.hid (HW7.out.trans (hr3.1.mono HW7.out.size)); obtain ⟨A3, d3, rfl, -, -⟩ := hr3.items; clear hr3
      refine hK.out _ _ ?_ (fun hHeld => ?_)
      focus ((try dsimp only); exact HD.out _ HW8.out; done)
      clear hK K
      (try simp only [Act.put, jA, jB, jC, jD, jE, jF])
      generalize shL l[k].par.ring l[c].par.ring = B at *
      have b6 : (B.length : Int) ≤ 128 := by have := HBL.out; omega
      refine tZ 13 ?_; refine tZ 14 ?_
      refine wpAnyH_done (by decide +kernel) ?_ _
      clear hHeld HSH
      by_cases hB : B = []
      ·have HPN : Hid (prow l l[k] (c + 1) = prow l l[k] c) := by
        unfold Hid
        rw [HPS.out, hB]
        simp
       have e1 : ((B.length : Int) == 0) = true := by rw [hB]; rfl
       clear hB
       go_wp2_with fail
       go_roundg (l.length - (c + 1))
       case measure => have := HGC.out; omega
       case rel => exact ⟨c + 1, T, by omega, by omega, rfl, by unfold Hid; rw [HPN.out]; exact HT.out, by go_num, by go_num, HW8.out⟩
      ·have e1 : ((B.length : Int) == 0) = false := by
        rw [beq_eq_false_iff_ne]
        intro e
        exact hB (List.length_eq_zero_iff.1 (by omega))
       have hbe : (!B.isEmpty) = true := by
        cases B with
        |nil => exact absurd rfl hB
        |cons _ _ => rfl
       obtain ⟨rr, hrr⟩ := HTH.out hbe
       have hg? : (pall l l.length)[T]? = some (l[k].par.id, l[c].par.id) := by
        rw [hrr, List.getElem?_append_right (by rw [HT.out, List.length_append]; exact Nat.le_refl _), HT.out, List.length_append, Nat.sub_self]
        rfl
       obtain ⟨hTl, hgT⟩ := List.getElem?_eq_some_iff.1 hg?
       have HPN : Hid ((prow l l[k] (c + 1)).length = (prow l l[k] c).length + 1) := by
        unfold Hid
        rw [HPS.out, if_pos hbe, List.length_append]
        rfl
       obtain ⟨adp, rfl, -, -, -⟩ := Items.at kindR.len HIT.out hTl
       have HC : Hid (∀ W, Below w3.heap.size w3 W → W.cell? ⟨g0, 1, none⟩ = some (.slice (some ad) l.length cp) ∧ (W.cell? (ad.add (k * 3)) = some (.int .i64 l[k].par.id) ∧ W.cell? (ad.add (c * 3)) = some (.int .i64 l[c].par.id)) ∧ W.cell? (adp.add (T * 2)) = some (.int .i64 l[k].par.id) ∧ W.cell? ⟨(adp.add (T * 2)).block, (adp.add (T * 2)).off + 1, none⟩ = some (.int .i64 l[c].par.id)) := fun W hB => by
        obtain ⟨adA, e', -, h0, h1⟩ := Items.at kindR.len (HIT.out.on hB) hTl
        obtain rfl := Option.some.inj e'
        rw [hgT] at h0 h1
        obtain ⟨q1, ⟨q2, -⟩, q3, -⟩ := HD.out W hB
        exact ⟨q1, ⟨q2, q3⟩, h0 _ (by decide) rfl, h1 1 _ (by decide) (by decide) rfl⟩
       have b3 : (T : Int) < ((pall l l.length).length : Int) := by omega
       have b03 : (0 : Int) ≤ (T : Int) := by omega
       have b4 : ¬ ((pall l l.length).length : Int) ≤ (T : Int) := by omega
       clear hB hbe hrr hg? hgT hTl HD
       go_upto_region 13 with (fail)
       refine wp_region_held_drew (S := fun W => W.cell? ⟨g0, 1, none⟩ = some (.slice (some ad) l.length cp) ∧ (W.cell? (ad.add (k * 3)) = some (.int .i64 l[k].par.id) ∧ W.cell? (ad.add (c * 3)) = some (.int .i64 l[c].par.id)) ∧ W.cell? (adp.add (T * 2)) = some (.int .i64 l[k].par.id) ∧ W.cell? ⟨(adp.add (T * 2)).block, (adp.add (T * 2)).off + 1, none⟩ = some (.int .i64 l[c].par.id)) (by kernel_rfl) ?_ (fun hHeld => ?_)
       ·(try dsimp only)
        exact HC.out _ HW8.out.drew
       have HW9 := Lib.hid HW8.out.drew
       generalize (World.drew _) = w9 at HW9 hHeld ⊢
       refine tZ 0 ?_; refine tZ 1 ?_; refine tZ 2 ?_; refine tZ 3 ?_; refine tZ 4 ?_; refine tZ 5 ?_; refine tZ 6 ?_; refine tZ 7 ?_; refine tZ 8 ?_; refine tZ 9 ?_; refine tZ 10 ?_; refine tZ 11 ?_; refine tZ 12 ?_; refine tZ 13 ?_; refine tZ 14 ?_; refine tZ 15 ?_; refine tZ 16 ?_; refine tZ 17 ?_; refine tZ 18 ?_; refine tZ 19 ?_; refine tZ 20 ?_; refine tZ 21 ?_; refine tZ 22 ?_; refine tZ 23 ?_
       refine wpAnyH_done (by decide +kernel) ?_ _
       clear hHeld
       go_wp2_with fail
       go_roundg (l.length - (c + 1))
       case measure => have := HGC.out; omega
       case rel => exact ⟨c + 1, T + 1, by omega, by omega, rfl, by unfold Hid; rw [HPN.out, HT.out]; omega, by go_num, by go_num, HW9.out⟩
     ·obtain rfl : c = l.length := by omega
      have b1 : ¬ (l.length : Int) < (l.length : Int) := by omega
      have HPZ := Lib.hid (pall_succ hkl)
      go_wp2_with fail
      go_roundg (l.length - (k + 1))
      case measure => have := HGK.out; omega
      case rel => exact ⟨k + 1, by omega, rfl, by rw [HPZ.out, List.length_append, ← HT.out], by go_num, HBC.out⟩
   ·obtain rfl : k = l.length := by omega
    have b1 : ¬ (l.length : Int) < (l.length : Int) := by omega
    have HBE := Lib.hid (HQ3.out.on HBR.out).1
    go_wp2_with fail
    refine bodyPost_ret (v := .bool true) ?_ rfl ⟨rfl, HBE.out⟩
    simp [results, Tryz.results5, go_sem]
end Go.Proofs.YtoabooljgojoiaaGreat

set_option maxRecDepth 100000
namespace Go.Proofs.YtoabooljgojoiaaGreat.queryPairs
open Go.Joins Go.ChangeShapes Go.WideShapes Go.ChangeAt Go.RowKit

theorem contract (H : Type) (enc : TypeId × Value → H) (W : World) (base : Nat) (args : Array Value) (ds gs : List (DataW H)) (before : List MemPlace)
  (hval : ∀ (j : Nat) t v, Tryz.f5.params[j]? = some t → args[j]? = some v → Value.okWide Tryz.prog W .any base t v)
  (hW : DataW.Whole enc Tryz.prog Tryz.f5.params.toList Rows.queryPairsSpec.vars false W args.toList ds gs before)
  (hsz : (DataW.weightsEach Tryz.prog (Tryz.f5.params.toList ++ (OpenSpec.ofChange Rows.queryPairsSpec).bare.plain.varTypes Tryz.prog) (ds ++ gs)).all (· ≤ reachBytes) = true) :
  Calls Tryz.prog 5 args W fun e W' => ∃ v, e = .returned v ∧ Rows.queryPairsSpec.post enc Tryz.prog Tryz.f5 false true false false W args v W' := by
 have hW' := hW
 have hlt := fun p hp => hW.lt p hp
 obtain ⟨p, q, hA0, hV, rfl, -, -⟩ := hW
 have hA : DataW.TrodAll enc Tryz.prog W 0 (fun _ => true) true Tryz.f5.params.toList args.toList ds p := hA0
 rw [Tryz.params5] at hA hval
 obtain ⟨v0, vs0, d0, ds0, p0, q0, hargs, rfl, rfl, h0, r0⟩ := trodAll_cons hA
 obtain ⟨rfl, rfl, rfl⟩ := trodAll_nil r0
 obtain rfl : args = #[v0] := by cases args; simp_all
 obtain ⟨rfl, rfl⟩ := trodVars_none hV
 have hl0 : ∀ q ∈ p0, q.block < W.heap.size := fun q hq => hlt q (by simp [hq])
 obtain ⟨o, Ao, co, p, Ap, cp, rfl, hown, hpl⟩ := open_plan (hval 0 26 v0 rfl rfl) h0
 obtain ⟨hl, hat⟩ := hpl fun k hk => of_decide_eq_true (List.all_eq_true.1 hsz _ (DataW.weights_mem_each (j := 0) (t := 26) (by rw [Tryz.params5]; rfl) rfl k hk))
 clear hA0
 refine (pairs_walk o Ao co p Ap cp (by have := hat.room; omega) hown W hat).mono fun e W' ⟨he, hb⟩ => ?_
 subst he
 exact ⟨_, rfl, post_under (pa := (p0 ++ [])) (pv := []) hW' (fun _ _ _ => trodAll_cons_mk (shut_bool Tryz.underlying4 _) trodAll_mk0)
  (fun _ hs => (trodAll_cons_mk (again (by kernel_rfl) (of_decide_eq_true (by kernel_rfl)) h0 hb hl0 (fun q hq => hs q (by simp [hq]))) trodAll_mk0)) (fun _ _ => rfl) (by simp)
  hb (ok_one (by kernel_rfl) rfl (okWide_bool_mk Tryz.underlying4 _))⟩

noncomputable def wit : Array Value := #[.agg #[.slice none 0 0, .slice none 0 0]]
theorem reads (os : Os) {H : Type} (enc : TypeId × Value → H) : ∃ places, DataW.whole enc Tryz.prog ((World.holding Tryz.prog os ⟨#[], #[], []⟩).forCall (fun _ _ => 0) ⟨#[], wit, []⟩).memory Tryz.f5.params.toList Rows.queryPairsSpec.vars false wit.toList 8 = some ([.agg [.nil, .nil]], [], places) :=
 ⟨[], by kernel_rfl⟩

theorem laid_met (os : Os) : laidMet Tryz.prog Rows.queryPairsRow.laid ((World.holding Tryz.prog os ⟨#[], #[], []⟩).forCall (fun _ _ => 0) ⟨#[], wit, []⟩).memory :=
 laidMet_of_run' 8 (by kernel_rfl) (by kernel_rfl)

set_option maxRecDepth 100000 in
theorem lifted (os : Os) (started : os.Started) (H : Type) (enc : TypeId × Value → H) (F : Stop.Interp) :
  ReturnsInHanded {} Tryz.checked os 5 .any ((OpenSpec.ofChange Rows.queryPairsSpec).preRow enc Tryz.prog Tryz.f5 Rows.queryPairsRow.domain false Rows.queryPairsRow.laid) (((OpenSpec.ofChange Rows.queryPairsSpec).at F).post enc Tryz.prog Tryz.f5 false true false false) := by
 obtain ⟨places, hx⟩ := reads os enc
 refine returnsInHanded_of_row (C := Tryz.checked) (s := OpenSpec.ofChange Rows.queryPairsSpec) own started (by kernel_rfl) Tryz.func5
  (witness_row_at (enc := enc) (C := Tryz.checked) false (World.holding Tryz.prog os ⟨#[], #[], []⟩) wit rfl (by kernel_rfl) (by kernel_rfl) (by kernel_rfl)
   (OpenSpec.preRow_of_cond 8 hx (by kernel_rfl) (fun k hk => by cases hk) (by kernel_rfl) (laid_met os))) ?_
 intro W base args ds gs before hval hW _ _ hsz _ _ _
 exact contract H enc W base args ds gs before hval hW hsz

theorem said : Rows.QueryPairsSaid :=
 OpenClaim.holds_of_cond 5 Tryz.f5 rfl rfl rfl rfl rfl rfl rfl ⟨rfl, rfl, rfl, rfl, rfl⟩ rfl rfl rfl rfl rfl (by kernel_rfl) Tryz.func5 (by kernel_rfl)
  (of_decide_eq_true (by kernel_rfl)) (by unfold Func.isWrapper; first | (rw [if_pos (by decide +kernel)]; kernel_rfl) | (rw [if_neg (by decide +kernel)]; exact ⟨rfl, rfl⟩))
  (fun os started H enc _ F => by rw [OpenClaim.pre_eq_preRow]; exact lifted os started H enc F)
end Go.Proofs.YtoabooljgojoiaaGreat.queryPairs
