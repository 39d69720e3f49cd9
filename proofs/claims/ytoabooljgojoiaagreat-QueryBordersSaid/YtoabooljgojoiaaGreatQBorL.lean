/- The walk of the law QueryBorders. -/
import Derived.Test.YtoabooljgojoiaaGreatQInd
import Derived.Test.YtoabooljgojoiaaGreatQShar
import Derived.Test.YtoabooljgojoiaaGreatRefSq
namespace Go.Proofs.YtoabooljgojoiaaGreat
open Go.RowKit

theorem mem_ownL {l : List PV} {e : (Int × Int) × (Int × Int)} {c : Int} : (e, c) ∈ ownL l ↔ ∃ y ∈ l, y.par.id = c ∧ e ∈ edg y.par.ring := by
 unfold ownL
 rw [List.mem_flatMap]
 constructor
 ·rintro ⟨y, hy, h⟩
  obtain ⟨e', he, h2⟩ := List.mem_map.1 h
  injection h2 with h3 h4
  subst h3 h4
  exact ⟨y, hy, rfl, he⟩
 ·rintro ⟨y, hy, rfl, he⟩
  exact ⟨y, hy, List.mem_map.2 ⟨e, he, rfl⟩⟩
theorem bd_shared {o : List (Int × Int)} {l : List PV} (h : PlanQ o (l.map PV.par)) {y : PV} (hy : y ∈ l) (r : List (Int × Int)) : bdL (ownL l) r y.par.id = shL r y.par.ring := by
 unfold bdL shL
 congr 1
 funext e
 rw [Bool.eq_iff_iff, isBd_iff, mem_ownL, decide_eq_true_iff]
 constructor
 ·rintro ⟨z, hz, e1, e2⟩
  have := h.one (List.mem_map_of_mem hz) (List.mem_map_of_mem hy) e1
  rwa [this] at e2
 ·intro h1
  exact ⟨y, hy, rfl, h1⟩
theorem plc_at {l : List PV} {a n : Int} (h : Plc (l.map fun x => x.par.id) a n) (hm : a ∈ l.map fun x => x.par.id) : ∃ (k : Nat) (hk : k < l.length), n = k ∧ l[k].par.id = a := by
 rcases h with ⟨-, h2⟩ | ⟨i, rfl, h2, -⟩
 ·exact absurd hm h2
 ·obtain ⟨hl, e⟩ := List.getElem?_eq_some_iff.1 h2
  rw [List.length_map] at hl
  exact ⟨i, hl, rfl, by simpa using e⟩
theorem plc_no {α : Type} {l : List α} {a : α} {n : Int} (h : Plc l a n) (hm : a ∉ l) : n = -1 := by
 rcases h with ⟨h, -⟩ | ⟨i, -, h2, -⟩
 ·exact h
 ·exact absurd (List.mem_of_getElem? h2) hm
theorem plan_sortedB {o : List (Int × Int)} {l : List PV} (h : PlanQ o (l.map PV.par)) : l.Pairwise fun a b => a.par.id < b.par.id := by
 have h1 := h.fine.1
 rwa [List.pairwise_map] at h1
set_option maxRecDepth 100000 in
set_option maxHeartbeats 8000000 in
theorem borders_walk (o : List (Int × Int)) (Ao : Option Addr) (co : Nat) (l : List PV) (Ap : Option Addr) (cp : Nat) (ho : o.length ≤ 8796093022208) (hown : ∀ x ∈ l, x.par.own.size ≤ maxLen) (a c : Int) (ha : In64 a) (hc : In64 c) (w : World) (h : PlanAt w o Ao co l Ap cp) :
  Calls Tryz.prog 6 #[.agg #[.slice Ao o.length co, .slice Ap l.length cp], .int .i64 a, .int .i64 c] w fun e w' => e = .returned (.bool true) ∧ Below w.heap.size w w' := by
 have HQ := (Hold.refl w).new #[.slice Ao o.length co, .slice Ap l.length cp] 26
 have HPA := Lib.hid (fun W (hb : Below w.heap.size w W) => h.on hb)
 have HPR := Lib.hid (fun W (hb : Below w.heap.size w W) => h.prs.on hb)
 have HO := Lib.hid ho
 have HOW := Lib.hid hown
 have HIA := Lib.hid ha
 have HIC := Lib.hid hc
 clear h ho hown ha hc
 go_enter Tryz.func6, Tryz.ntmps6
 go_upto_region 1 with (fail)
 generalize (World.alloc _ _) = W1 at HQ ⊢
 obtain ⟨g0, hg0⟩ : ∃ g, w.heap.size = g := ⟨_, rfl⟩
 rw [hg0] at HQ ⊢
 have HG0 := Lib.hid hg0
 clear hg0
 have HIX := Lib.hid (qindex_any o Ao co l Ap cp HO.out HOW.out W1 (HPA.out W1 HQ.1))
 obtain ⟨c0, c1⟩ := HQ.pt (.head _)
 have HQ1 := Lib.hid HQ
 clear HQ
 go_wp2_with fail
 go_at_call 9
 refine HIX.out.mono ?_
 rintro e w2 (⟨rfl, hb2⟩ | ⟨b, m1, m2, l', rfl, hb2, hck, ⟨h8, h3⟩, hpar, hbo, hro, hst, hlf, hrw⟩)
 ·have HBE := Lib.hid (HQ1.out.on hb2).1
  clear hb2 HIX c0 c1
  go_wp2_with fail
  refine bodyPost_ret (v := .bool true) ?_ rfl ⟨rfl, HBE.out⟩
  simp [results, Tryz.results6, go_sem]
 ·have hpq := chkB_plan.1 hck
  obtain ⟨d, q, v, hblk⟩ := hst.block
  have hh : Hold W1 [(b, #[.map (some m1), .map (some m2), d, (.int .i32 0), q, v, .int .i64 0], 109)] w2 := ⟨hb2, fun e he => by
   obtain rfl := List.mem_singleton.1 he
   exact ⟨hblk, hbo⟩, List.pairwise_singleton _ _⟩
  have hbd := Border_any (l.map PV.par) l' hpar b m1 m2 d (.int .i32 0) q v 0 a c (by rw [IntKind.wrap_i64]; omega) HIA.out HIC.out (fun x hx => by
   have := (hpq.fine.2.1 x hx).1
   intro e
   rw [e] at this
   exact absurd this (by decide)) W1 w2 hh hro.map hlf hrw (fun x hx => by
   have h1 : x.par ∈ l'.map PV.par := List.mem_map_of_mem hx
   rw [hpar] at h1
   have h2 := normP_small (hpq.each _ h1)
   exact ⟨h2.2.2, h2.2.1⟩)
  have HBD := Lib.hid hbd
  have HB2 := Lib.hid hb2
  have HBO := Lib.hid hbo
  have HBL := Lib.hid hblk
  have HPQ := Lib.hid hpq
  have HPAR := Lib.hid hpar
  have H8 := Lib.hid h8
  have HQ2 := Lib.hid (HQ1.out.on hb2)
  clear hb2 hbo hblk hpq hpar h8 h3 hck hro hst hlf hrw hh hbd HIX c0 c1
  go_wp2_with fail
  go_at_call 19
  have hb2' := HB2.out.setCell (p := ⟨b, 6, none⟩) HBO.out (.int .i64 (0 + 1))
  refine HBD.out.mono ?_
  rintro e w3 ⟨hb, hh⟩
  have hb3 := hb2'.trans (hb.mono hb2'.size)
  obtain ⟨v1, v2, rfl, hne, heq⟩ : ∃ v1 v2, e = .returned (.tuple #[v1, v2, .int .i64 (bdE (l.map PV.par) a c)]) ∧ (bdE (l.map PV.par) a c ≠ 0 → v1 = .slice none 0 0 ∧ v2 = .slice none 0 0) ∧ (bdE (l.map PV.par) a c = 0 → ∃ x ∈ l', x.par.id = a ∧ RowI W1 61 4 encG v1 (bdL (ownL l') x.par.ring c) w3 ∧ RowI W1 64 2 encW v2 ((bdL (ownL l') x.par.ring c).map sqE) w3) := by
   rcases hh with ⟨h1, rfl⟩ | ⟨h1, v1, v2, rfl, x, hx, hxa, hr1, hr2⟩
   ·exact ⟨_, _, rfl, fun _ => ⟨rfl, rfl⟩, fun h => absurd h h1⟩
   ·exact ⟨v1, v2, by rw [h1], fun h => absurd h1 h, fun _ => ⟨x, hx, hxa, hr1.basedQ hb2', hr2.basedQ hb2'⟩⟩
  clear hb hh
  have HQ3 := Lib.hid (HQ1.out.on hb3)
  have HNE := Lib.hid hne
  have HEQ := Lib.hid heq
  obtain ⟨E, hE⟩ : ∃ E, E = bdE (l.map PV.par) a c := ⟨_, rfl⟩
  rw [← hE] at HNE HEQ ⊢
  have HE := Lib.hid hE
  have HB3 := Lib.hid hb3
  clear hne heq hE hb2' hb3 HBD
  have HAT := Lib.hid (fun (id : Int) W (hb : Below w.heap.size w W) => ref_at o Ao co l Ap cp id (by have := H8.out; omega) W (HPR.out W hb))
  go_wp2_with fail
  refine wp_region_held_drew (S := fun W => W.cell? ⟨g0, 0, none⟩ = some (.slice Ao o.length co) ∧ W.cell? ⟨g0, 1, none⟩ = some (.slice Ap l.length cp)) (by kernel_rfl) ?_ (fun hHeld => ?_)
  ·(try dsimp only)
   exact (HQ3.out.drew).pt (.head _)
  have HQ4 := Lib.hid HQ3.out.drew
  have HW4 := Lib.hid (show Below w3.heap.size w3 w3.drew from (Below.refl _ _).drew)
  generalize (World.drew _) = w4 at HQ4 HW4 hHeld ⊢
  refine tZ 0 ?_; refine tZ 1 ?_; refine tZ 3 ?_; refine tZ 4 ?_
  refine wpAnyH_ready (rs := [2]) (by decide +kernel) (by simp) ?_
  refine AllReadyH.cons rfl (fun K hK => ?_) AllReadyH.nil
  (try simp only [jA, jB, jC])
  go_simp
  go_at_call 20; refine (HAT.out a _ HQ4.out.1).mono ?_; rintro e' w5 ⟨n1, rfl, hp1, hb5⟩; have HP1 := Lib.hid hp1; have HQ5 := Lib.hid (HQ4.out.on hb5); have HW5 := Lib.hid (HW4.out.trans (hb5.mono HW4.out.size)); clear hp1 hb5
  refine hK.out _ _ ?_ (fun hHeld => ?_)
  focus ((try dsimp only); exact HQ5.out.pt (.head _); done)
  clear hK K
  (try simp only [Act.put, jA, jB, jC, jD, jE, jF])
  refine wpAnyH_ready (rs := [5]) (by decide +kernel) (by simp) ?_
  refine AllReadyH.cons rfl (fun K hK => ?_) AllReadyH.nil
  (try simp only [jA, jB, jC])
  go_simp
  go_at_call 20; refine (HAT.out c _ HQ5.out.1).mono ?_; rintro e' w6 ⟨n2, rfl, hp2, hb6⟩; have HP2 := Lib.hid hp2; have HQ6 := Lib.hid (HQ5.out.on hb6); have HW6 := Lib.hid (HW5.out.trans (hb6.mono HW5.out.size)); clear hp2 hb6
  refine hK.out _ _ ?_ (fun hHeld => ?_)
  focus ((try dsimp only); exact HQ6.out.pt (.head _); done)
  clear hK K
  (try simp only [Act.put, jA, jB, jC, jD, jE, jF])
  refine tZ 6 ?_; refine tZ 7 ?_
  refine wpAnyH_done (by decide +kernel) ?_ _
  clear hHeld HAT HQ4 HQ5 HW4 HW5
  have hids : (l.map PV.par).map Par.id = l.map fun x => x.par.id := by rw [List.map_map]; rfl
  by_cases hin : a ∈ (l.map fun x => x.par.id) ∧ c ∈ l.map fun x => x.par.id
  ·obtain ⟨k1, hk1, rfl, hl1⟩ := plc_at HP1.out hin.1
   obtain ⟨k2, hk2, rfl, hl2⟩ := plc_at HP2.out hin.2
   have g1 : ¬ (k1 : Int) < 0 := by omega
   have g2 : ¬ (k2 : Int) < 0 := by omega
   by_cases hac : a = c
   ·obtain rfl : E = 1 := by rw [HE.out]; unfold bdE; rw [hids, if_neg (fun h => h.elim (fun h => h hin.1) fun h => h hin.2), if_pos hac]
    obtain ⟨rfl, rfl⟩ := HNE.out (by decide)
    have hkk : k1 = k2 := by
     have hs := (plan_sortedB HPQ.out)
     rcases Nat.lt_trichotomy k1 k2 with h | h | h
     ·have := List.pairwise_iff_getElem.1 hs k1 k2 hk1 hk2 h; omega
     ·exact h
     ·have := List.pairwise_iff_getElem.1 hs k2 k1 hk2 hk1 h; omega
    subst hkk
    have HBE := Lib.hid HQ6.out.1
    clear hin hac hl1 hl2 hk1 hk2 hids
    go_wp2_with fail
    refine bodyPost_ret (v := .bool true) ?_ rfl ⟨rfl, HBE.out⟩
    simp [results, Tryz.results6, go_sem]
   ·obtain rfl : E = 0 := by rw [HE.out]; unfold bdE; rw [hids, if_neg (fun h => h.elim (fun h => h hin.1) fun h => h hin.2), if_neg hac]
    obtain ⟨x, hx, hxa, hr1, hr2⟩ := HEQ.out rfl
    have hm1 := List.getElem_mem hk1
    have hm2 := List.getElem_mem hk2
    have hxp : x.par = l[k1].par := HPQ.out.one (by rw [← HPAR.out]; exact List.mem_map_of_mem hx) (List.mem_map_of_mem hm1) (by rw [hxa, hl1])
    have hbs : bdL (ownL l') x.par.ring c = shL l[k1].par.ring l[k2].par.ring := by
     rw [ownL_par HPAR.out, hxp, ← hl2]
     exact bd_shared HPQ.out hm2 _
    rw [hbs] at hr1 hr2
    have gk : ((k1 : Int) == (k2 : Int)) = false := by
     rw [beq_eq_false_iff_ne]
     intro e
     have : k1 = k2 := by omega
     subst this
     exact hac (hl1.symm.trans hl2)
    have hn1 := normP_small (HPQ.out.each _ (List.mem_map_of_mem hm1))
    have hn2 := normP_small (HPQ.out.each _ (List.mem_map_of_mem hm2))
    obtain ⟨ad, rfl, -⟩ := (HPR.out _ HQ6.out.1).at hk1
    have HD : Hid (∀ W, Below w6.heap.size w6 W → W.cell? ⟨g0, 1, none⟩ = some (.slice (some ad) l.length cp) ∧ W.cell? ⟨(ad.add (k1 * 3)).block, (ad.add (k1 * 3)).off + 1, none⟩ = some (.slice l[k1].A l[k1].par.ring.length l[k1].cap) ∧ W.cell? ⟨(ad.add (k2 * 3)).block, (ad.add (k2 * 3)).off + 1, none⟩ = some (.slice l[k2].A l[k2].par.ring.length l[k2].cap)) := fun W hB => by
     have hp := HPR.out W (HQ6.out.on hB).1
     obtain ⟨ad', e, -, -, a1, -⟩ := hp.at hk1
     obtain rfl := Option.some.inj e
     obtain ⟨ad'', e, -, -, a2, -⟩ := hp.at hk2
     obtain rfl := Option.some.inj e
     exact ⟨((HQ6.out.on hB).pt (.head _)).2, a1, a2⟩
    have HSH := Lib.hid (fun W (hB : Below w6.heap.size w6 W) => sharedL_any l[k1].par.ring l[k2].par.ring l[k1].A l[k2].A l[k1].cap l[k2].cap (by have := hn1.2.1; omega) (by have := hn2.2.1; omega) W ((HPR.out W (HQ6.out.on hB).1).2 l[k1] hm1).1 ((HPR.out W (HQ6.out.on hB).1).2 l[k2] hm2).1)
    have HGD : Hid (∀ e ∈ shL l[k1].par.ring l[k2].par.ring, Gd e.1 ∧ Gd e.2) := fun e he => edg_gd hn1.2.2 (List.mem_filter.1 he).1
    have HBL2 : Hid ((shL l[k1].par.ring l[k2].par.ring).length ≤ 128) := by
     have := List.length_filter_le (fun e => decide (bk e ∈ edg l[k2].par.ring)) (edg l[k1].par.ring)
     rw [edg_len] at this
     exact Nat.le_trans this hn1.2.1
    have b1 : (k1 : Int) < (l.length : Int) := by omega
    have b2 : (k2 : Int) < (l.length : Int) := by omega
    have b01 : (0 : Int) ≤ (k1 : Int) := by omega
    have b02 : (0 : Int) ≤ (k2 : Int) := by omega
    generalize shL l[k1].par.ring l[k2].par.ring = B at *
    clear hm1 hm2 hxp hbs hn1 hn2 hx hxa hin hl1 hl2 hids HEQ HNE HE HP1 HP2 hac x
    generalize l[k1].par.ring = r1 at *
    generalize l[k2].par.ring = r2 at *
    generalize l[k1].A = R1 at *
    generalize l[k2].A = R2 at *
    generalize l[k1].cap = C1 at *
    generalize l[k2].cap = C2 at *
    obtain ⟨A1, d1, rfl, hi1, -⟩ := hr1.items
    obtain ⟨A2, d2, rfl, hi2, -⟩ := hr2.items
    have HI1 := Lib.hid (hi1.on HW6.out)
    have HI2 := Lib.hid (hi2.on HW6.out)
    clear hi1 hi2 hr1 hr2
    rw [List.length_map]
    go_wp2_with fail
    refine wp_region_held_drew (S := fun W => W.cell? ⟨g0, 1, none⟩ = some (.slice (some ad) l.length cp) ∧ W.cell? ⟨(ad.add (k1 * 3)).block, (ad.add (k1 * 3)).off + 1, none⟩ = some (.slice R1 r1.length C1) ∧ W.cell? ⟨(ad.add (k2 * 3)).block, (ad.add (k2 * 3)).off + 1, none⟩ = some (.slice R2 r2.length C2)) (by kernel_rfl) ?_ (fun hHeld => ?_)
    ·(try dsimp only)
     exact HD.out _ (Below.refl _ _).drew
    have HW7 := Lib.hid (show Below w6.heap.size w6 w6.drew from (Below.refl _ _).drew)
    generalize (World.drew _) = w7 at HW7 hHeld ⊢
    refine tZ 0 ?_; refine tZ 1 ?_; refine tZ 2 ?_; refine tZ 3 ?_; refine tZ 4 ?_; refine tZ 5 ?_; refine tZ 6 ?_; refine tZ 7 ?_; refine tZ 8 ?_; refine tZ 9 ?_; refine tZ 10 ?_; refine tZ 11 ?_
    refine wpAnyH_ready (rs := [12]) (by decide +kernel) (by simp) ?_
    refine AllReadyH.cons rfl (fun K hK => ?_) AllReadyH.nil
    (try simp only [jA, jB, jC])
    go_simp
    go_at_call 18; refine (HSH.out _ HW7.out).mono ?_; rintro e' w8 ⟨v3, rfl, hr3⟩; have HR3 := Lib.hid hr3; have HW8 := Lib.hid (HW7.out.trans (hr3.1.mono HW7.out.size)); clear hr3
    refine hK.out _ _ ?_ (fun hHeld => ?_)
    focus ((try dsimp only); exact HD.out _ HW8.out; done)
    clear hK K
    (try simp only [Act.put, jA, jB, jC, jD, jE, jF])
    refine tZ 13 ?_
    refine wpAnyH_done (by decide +kernel) ?_ _
    obtain ⟨A3, d3, rfl, hi3, -⟩ := HR3.out.items
    have HI3 := Lib.hid hi3
    have HX1 := Lib.hid (HI1.out.on HW8.out)
    have HX2 := Lib.hid (HI2.out.on HW8.out)
    have HQ8 := Lib.hid (HQ6.out.on HW8.out).1
    clear hi3 hHeld HR3 HSH HD
    have b6 : (B.length : Int) ≤ 128 := by have := HBL2.out; omega
    go_wp2_with fail
    go_loopw [15] (fun i wr => ∃ k : Nat, i = .int .i64 k ∧ k ≤ B.length ∧ Hid (Below w8.heap.size w8 wr)) (fun i _ => B.length - (RowKit.intOf i).toNat)
    case atStart => exact ⟨0, rfl, Nat.zero_le _, Below.refl _ _⟩
    case round =>
     obtain ⟨k, rfl, hk, HBR⟩ := hrel
     by_cases hlt : k < B.length
     ·have b0 : (0 : Int) ≤ (k : Int) := by omega
      have b5 : (k : Int) < (B.length : Int) := by omega
      obtain ⟨ad1, rfl, -, -⟩ := Items.at kindG.len (HX1.out.on HBR.out) hlt
      obtain ⟨ad3, rfl, -, -⟩ := Items.at kindG.len (HI3.out.on HBR.out) hlt
      have hlt2 : k < (B.map sqE).length := by rw [List.length_map]; exact hlt
      obtain ⟨ad2, rfl, -, -⟩ := Items.at kindW.len (HX2.out.on HBR.out) hlt2
      have HC : Hid (∀ W, Below w8.heap.size w8 W →
        (W.cell? (ad1.add (k * 4)) = some (.int .i64 B[k].1.1) ∧ W.cell? ⟨(ad1.add (k * 4)).block, (ad1.add (k * 4)).off + 1, none⟩ = some (.int .i64 B[k].1.2) ∧ W.cell? ⟨(ad1.add (k * 4)).block, (ad1.add (k * 4)).off + 2, none⟩ = some (.int .i64 B[k].2.1) ∧ W.cell? ⟨(ad1.add (k * 4)).block, (ad1.add (k * 4)).off + 3, none⟩ = some (.int .i64 B[k].2.2)) ∧
        (W.cell? (ad3.add (k * 4)) = some (.int .i64 B[k].1.1) ∧ W.cell? ⟨(ad3.add (k * 4)).block, (ad3.add (k * 4)).off + 1, none⟩ = some (.int .i64 B[k].1.2) ∧ W.cell? ⟨(ad3.add (k * 4)).block, (ad3.add (k * 4)).off + 2, none⟩ = some (.int .i64 B[k].2.1) ∧ W.cell? ⟨(ad3.add (k * 4)).block, (ad3.add (k * 4)).off + 3, none⟩ = some (.int .i64 B[k].2.2)) ∧
        W.cell? (ad2.add (k * 2)) = some (.int .i64 (hiOf (sqr B[k].1 B[k].2))) ∧ W.cell? ⟨(ad2.add (k * 2)).block, (ad2.add (k * 2)).off + 1, none⟩ = some (.int .u64 (loOf (sqr B[k].1 B[k].2)))) := fun W h => by
       obtain ⟨adA, e', -, h0, h1⟩ := Items.at kindG.len (HX1.out.on h) hlt
       obtain rfl := Option.some.inj e'
       obtain ⟨adB, e', -, i0, i1⟩ := Items.at kindG.len (HI3.out.on h) hlt
       obtain rfl := Option.some.inj e'
       obtain ⟨adC, e', -, j0, j1⟩ := Items.at kindW.len (HX2.out.on h) hlt2
       obtain rfl := Option.some.inj e'
       have e2 : (B.map sqE)[k] = sqE B[k] := by simp
       rw [e2] at j0 j1
       exact ⟨⟨h0 _ (by decide) rfl, h1 1 _ (by decide) (by decide) rfl, h1 2 _ (by decide) (by decide) rfl, h1 3 _ (by decide) (by decide) rfl⟩, ⟨i0 _ (by decide) rfl, i1 1 _ (by decide) (by decide) rfl, i1 2 _ (by decide) (by decide) rfl, i1 3 _ (by decide) (by decide) rfl⟩, j0 _ (by decide) rfl, j1 1 _ (by decide) (by decide) rfl⟩
      have hg := HGD.out _ (List.getElem_mem hlt)
      have HSQ := Lib.hid (fun W => ref_square B[k].1 B[k].2 hg.1 hg.2 W)
      clear hlt2 hg
      generalize B[k] = x at *
      go_upto_region 16 with (fail)
      refine wp_region_held_drew (S := fun W => (W.cell? (ad1.add (k * 4)) = some (.int .i64 x.1.1) ∧ W.cell? ⟨(ad1.add (k * 4)).block, (ad1.add (k * 4)).off + 1, none⟩ = some (.int .i64 x.1.2) ∧ W.cell? ⟨(ad1.add (k * 4)).block, (ad1.add (k * 4)).off + 2, none⟩ = some (.int .i64 x.2.1) ∧ W.cell? ⟨(ad1.add (k * 4)).block, (ad1.add (k * 4)).off + 3, none⟩ = some (.int .i64 x.2.2)) ∧
        (W.cell? (ad3.add (k * 4)) = some (.int .i64 x.1.1) ∧ W.cell? ⟨(ad3.add (k * 4)).block, (ad3.add (k * 4)).off + 1, none⟩ = some (.int .i64 x.1.2) ∧ W.cell? ⟨(ad3.add (k * 4)).block, (ad3.add (k * 4)).off + 2, none⟩ = some (.int .i64 x.2.1) ∧ W.cell? ⟨(ad3.add (k * 4)).block, (ad3.add (k * 4)).off + 3, none⟩ = some (.int .i64 x.2.2)) ∧
        W.cell? (ad2.add (k * 2)) = some (.int .i64 (hiOf (sqr x.1 x.2))) ∧ W.cell? ⟨(ad2.add (k * 2)).block, (ad2.add (k * 2)).off + 1, none⟩ = some (.int .u64 (loOf (sqr x.1 x.2)))) (by kernel_rfl) ?_ (fun hHeld => ?_)
      ·(try dsimp only)
       exact HC.out _ HBR.out.drew
      have HBS := Lib.hid HBR.out.drew
      generalize (World.drew _) = w9 at HBS hHeld ⊢
      refine tZ 0 ?_; refine tZ 1 ?_; refine tZ 2 ?_; refine tZ 3 ?_; refine tZ 4 ?_; refine tZ 5 ?_; refine tZ 6 ?_; refine tZ 7 ?_; refine tZ 8 ?_; refine tZ 9 ?_; refine tZ 10 ?_; refine tZ 11 ?_; refine tZ 12 ?_; refine tZ 13 ?_; refine tZ 14 ?_; refine tZ 15 ?_; refine tZ 16 ?_; refine tZ 17 ?_; refine tZ 18 ?_; refine tZ 19 ?_; refine tZ 20 ?_; refine tZ 21 ?_; refine tZ 22 ?_; refine tZ 23 ?_
      refine wpAnyH_ready (rs := [24]) (by decide +kernel) (by simp) ?_
      refine AllReadyH.cons rfl (fun K hK => ?_) AllReadyH.nil
      (try simp only [jA, jB, jC])
      go_simp
      go_at_call 21; refine (HSQ.out _).mono ?_; rintro e' w10 ⟨rfl, hb10⟩; have HB10 := Lib.hid (HBS.out.trans (hb10.mono HBS.out.size)); clear hb10
      refine hK.out _ _ ?_ (fun hHeld => ?_)
      focus ((try dsimp only); exact HC.out _ HB10.out; done)
      clear hK K
      (try simp only [Act.put, jA, jB, jC, jD, jE, jF])
      refine tZ 25 ?_; refine tZ 26 ?_
      refine wpAnyH_done (by decide +kernel) ?_ _
      clear hHeld
      go_wp2_with fail
      exact ⟨⟨k + 1, by go_num, by omega, HB10.out⟩, by simp [RowKit.intOf]; omega⟩
     ·have b5 : ¬ (k : Int) < (B.length : Int) := by omega
      have HBE := Lib.hid (HQ8.out.trans (HBR.out.mono HQ8.out.size))
      go_wp2_with fail
      refine bodyPost_ret (v := .bool true) ?_ rfl ⟨rfl, HBE.out⟩
      simp [results, Tryz.results6, go_sem]
  ·obtain rfl : E = 5 := by rw [HE.out]; unfold bdE; rw [hids, if_pos (Classical.or_iff_not_imp_left.2 fun h h2 => hin ⟨Classical.not_not.1 h, h2⟩)]
   obtain ⟨rfl, rfl⟩ := HNE.out (by decide)
   have HBE := Lib.hid HQ6.out.1
   by_cases h1 : a ∈ l.map fun x => x.par.id
   ·obtain ⟨k1, hk1, rfl, -⟩ := plc_at HP1.out h1
    obtain rfl := plc_no HP2.out (fun h2 => hin ⟨h1, h2⟩)
    have g1 : ¬ (k1 : Int) < 0 := by omega
    clear hin h1 hk1 hids
    go_wp2_with fail
    refine bodyPost_ret (v := .bool true) ?_ rfl ⟨rfl, HBE.out⟩
    simp [results, Tryz.results6, go_sem]
   ·obtain rfl := plc_no HP1.out h1
    clear hin h1 hids
    go_wp2_with fail
    refine bodyPost_ret (v := .bool true) ?_ rfl ⟨rfl, HBE.out⟩
    simp [results, Tryz.results6, go_sem]
end Go.Proofs.YtoabooljgojoiaaGreat
