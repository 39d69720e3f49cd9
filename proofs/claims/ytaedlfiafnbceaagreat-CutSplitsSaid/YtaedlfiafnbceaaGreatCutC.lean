/- The program's cut: a ring with a corner more; the ring of a path and a border. -/
import Derived.Test.YtaedlfiafnbceaaGreatCutP
import Derived.Test.YtaedlfiafnbceaaGreatPtLib
import Derived.Test.YtaedlfiafnbceaaGreatGeoAns
import Derived.Test.YtaedlfiafnbceaaGreatSide
import Derived.Test.YtaedlfiafnbceaaGreatPlanB
import Derived.Test.YtaedlfiafnbceaaGreatCutM
import Derived.Test.YtaedlfiafnbceaaGreatTurned
namespace Go.Proofs.YtaedlfiafnbceaaGreat
open Go.RowKit

theorem items_cells {α : Type} {enc : α → List Value} {W : World} {g : Nat} {t : TypeId} {cs : Array Value} {l : List α} (h : W.heap[g]? = some (.cells cs t (0, 0))) (hcs : cs.toList = l.flatMap enc) : Items W W.heap.size (some ⟨g, 0, none⟩) enc l := fun _ =>
 ⟨_, rfl, blk_lt h, fun j u hu => by rw [add_off, blk_cell h, ← hu, ← hcs, Array.getElem?_toList]⟩
theorem flatR_three (x y z : RV) : flatR [x, y, z] = (x.ring ++ y.ring) ++ z.ring := by unfold flatR; simp
theorem flatR_two (x y : RV) : flatR [x, y] = x.ring ++ y.ring := by unfold flatR; simp
theorem concat_three (p1 p2 p3 : List (Int × Int)) (A1 A2 A3 : Option Addr) (c1 c2 c3 g cap : Nat) (h1 : NilOk A1 c1) (h2 : NilOk A2 c2) (h3 : NilOk A3 c3) (h0 : 0 < p2.length) (hn : p1.length + p2.length + p3.length ≤ 1000000) (w : World)
  (hg : w.heap[g]? = some (.cells #[.slice A1 p1.length c1, .slice A2 p2.length c2, .slice A3 p3.length c3] 23 (0, 0))) (q1 : Pts w w.heap.size A1 p1) (q2 : Pts w w.heap.size A2 p2) (q3 : Pts w w.heap.size A3 p3) :
  Calls Tryz.prog 74 #[.slice (some ⟨g, 0, none⟩) 3 cap] w fun e w' => ∃ v, e = .returned v ∧ Row w v ((p1 ++ p2) ++ p3) w' := by
 have h := concats_any [⟨p1, A1, c1⟩, ⟨p2, A2, c2⟩, ⟨p3, A3, c3⟩] (some ⟨g, 0, none⟩) cap (by simp) (fun x hx => by
   simp only [List.mem_cons, List.not_mem_nil, or_false] at hx
   rcases hx with rfl | rfl | rfl
   ·exact h1
   ·exact h2
   ·exact h3) (by rw [flatR_three]; simp only [List.length_append]; omega) (by rw [flatR_three]; simp only [List.length_append]; omega) w ⟨items_cells hg rfl, fun x hx => by
   simp only [List.mem_cons, List.not_mem_nil, or_false] at hx
   rcases hx with rfl | rfl | rfl
   ·exact q1
   ·exact q2
   ·exact q3⟩
 rw [flatR_three] at h
 exact h
theorem concat_two (p1 p2 : List (Int × Int)) (A1 A2 : Option Addr) (c1 c2 g cap : Nat) (h1 : NilOk A1 c1) (h2 : NilOk A2 c2) (h0 : 0 < p1.length + p2.length) (hn : p1.length + p2.length ≤ 1000000) (w : World)
  (hg : w.heap[g]? = some (.cells #[.slice A1 p1.length c1, .slice A2 p2.length c2] 23 (0, 0))) (q1 : Pts w w.heap.size A1 p1) (q2 : Pts w w.heap.size A2 p2) :
  Calls Tryz.prog 74 #[.slice (some ⟨g, 0, none⟩) 2 cap] w fun e w' => ∃ v, e = .returned v ∧ Row w v (p1 ++ p2) w' := by
 have h := concats_any [⟨p1, A1, c1⟩, ⟨p2, A2, c2⟩] (some ⟨g, 0, none⟩) cap (by simp) (fun x hx => by
   simp only [List.mem_cons, List.not_mem_nil, or_false] at hx
   rcases hx with rfl | rfl
   ·exact h1
   ·exact h2) (by rw [flatR_two]; simp only [List.length_append]; omega) (by rw [flatR_two]; simp only [List.length_append]; omega) w ⟨items_cells hg rfl, fun x hx => by
   simp only [List.mem_cons, List.not_mem_nil, or_false] at hx
   rcases hx with rfl | rfl
   ·exact q1
   ·exact q2⟩
 rw [flatR_two] at h
 exact h
theorem Pts.none (w : World) (B : Nat) (A : Option Addr) : Pts w B A [] := fun h => absurd h (by simp)
theorem Pts.dropAll {w : World} {B : Nat} {ad : Addr} {ps : List (Int × Int)} {k : Nat} {A' : Option Addr} (h : Pts w B (some ad) ps) (hA : k < ps.length → A' = some (ad.add (k * 2))) : Pts w B A' (ps.drop k) := by
 by_cases hk : k < ps.length
 ·rw [hA hk]; exact h.drop hk
 ·rw [List.drop_eq_nil_of_le (by omega)]; exact Pts.none _ _ _
theorem putC_first {r : List (Int × Int)} {p : Int × Int} {k : Nat} (hs : Sound r) (hk : k < r.length) (h : Ins (nx r k) (nx r (k + 1)) p) : putC r p = (r.take (k + 1) ++ [p]) ++ r.drop (k + 1) := putC_at hs hk h

set_option maxRecDepth 100000 in
set_option maxHeartbeats 2000000 in
theorem withCorner_any (ps : List (Int × Int)) (A : Option Addr) (cap : Nat) (p : Int × Int) (hs : Sound ps) (hg : gdL ps = true) (hp : gd p = true) (hn : ps.length ≤ 1000) (hnil : NilOk A cap) (hcap : ps.length ≤ cap) (w : World) (hr : Pts w w.heap.size A ps) :
  Calls Tryz.prog 72 #[.slice A ps.length cap, .agg #[.int .i64 p.1, .int .i64 p.2]] w fun e w' => ∃ v, e = .returned v ∧ Row w v (putC ps p) w' := by
 have h3 : 3 ≤ ps.length := hs.1
 have HR := Lib.hid (fun K W (h : Hold w K W) => hr.on h.1)
 have HRA := Lib.hid (fun K W (h : Hold w K W) (k i : Nat) (hk : k < ps.length) (hi : i % ps.length = k) => hr.nx h.1 hk hi)
 have HG := Lib.hid (fun i j => (gdL_three.2 ⟨nx_gd hg (by omega) i, nx_gd hg (by omega) j, gd_iff.1 hp⟩ : gdL [nx ps i, nx ps j, p] = true))
 have HQ := (Hold.refl w).new #[.int .i64 p.1, .int .i64 p.2] 35
 have HCL := Lib.hid (fun K W (h : Hold w K W) => clone_any ps A cap (by omega) hnil W (hr.on h.1))
 have HS := Lib.hid hs
 have HNB : Hid (ps.length ≤ 1000) := hn
 have HH3 : Hid (3 ≤ ps.length) := h3
 clear hr hs hg hp hnil h3
 go_enter Tryz.func72, Tryz.ntmps72
 go_upto_region 1 with (fail)
 generalize (World.alloc _ _) = W1 at HQ ⊢
 obtain ⟨g0, hg0⟩ : ∃ g, w.heap.size = g := ⟨_, rfl⟩
 have HG0 := Lib.hid hg0
 rw [hg0] at HQ ⊢
 clear hg0
 go_wp2_with fail
 go_loopg [12] ps.length (fun g i wr => ∃ k : Nat, k ≤ ps.length ∧ g = ps.length - k ∧ i = .int .i64 k ∧ (∀ j : Nat, j < k → ¬ Ins (nx ps j) (nx ps (j + 1)) p) ∧ Hold w [(g0, #[.int .i64 p.1, .int .i64 p.2], 35)] wr)
 case atStart => exact ⟨0, Nat.zero_le _, rfl, rfl, fun j hj => absurd hj (by omega), HQ⟩
 case round =>
  clear HQ
  obtain ⟨k, hk, hgk, rfl, hno, HB⟩ := hrel
  have HGK := Lib.hid hgk
  have HNO := Lib.hid hno
  clear hgk hno
  by_cases hlt : k < ps.length
  ·obtain ⟨jn, hjn, hmod, -, htm⟩ := next_place hlt
   obtain ⟨ad, hA, -, d0, d1⟩ := HRA.out _ _ HB k k hlt (Nat.mod_eq_of_lt hlt)
   obtain ⟨ad', hA', -, d2, d3⟩ := HRA.out _ _ HB jn (k + 1) hjn hmod
   subst hA
   obtain rfl := Option.some.inj hA'
   have HGD := Lib.hid (HG.out k (k + 1))
   have HIN : Hid (Ins (nx ps k) (nx ps (k + 1)) p → putC ps p = (ps.take (k + 1) ++ [p]) ++ ps.drop (k + 1)) := fun h => putC_first HS.out hlt h
   have HGN : Hid (¬ Ins (nx ps k) (nx ps (k + 1)) p → ∀ j : Nat, j < k + 1 → ¬ Ins (nx ps j) (nx ps (j + 1)) p) := fun h j hj => by
    by_cases ej : j = k
    ·subst ej; exact h
    ·exact HNO.out j (by omega)
   have b0 : (0 : Int) ≤ (k : Int) := by omega
   have b1 : (k : Int) < (ps.length : Int) := by omega
   have b2 : (0 : Int) ≤ (jn : Int) := by omega
   have b3 : (jn : Int) < (ps.length : Int) := by omega
   have b4 : ¬ ps.length = 0 := by omega
   have b5 : ¬ ps = [] := fun e => by rw [e] at b4; exact b4 rfl
   have b6 : IntKind.i64.wrap ((k : Int) + 1) = (k : Int) + 1 := by have := HNB.out; rw [IntKind.wrap_i64]; omega
   have b7 : (ps.length : Int) ≤ 1000 := by have := HNB.out; omega
   have HRY : Hid (∀ K W, Hold w K W → W.cell? (ad.add (jn * 2)) = some (.int .i64 (nx ps (k + 1)).1) ∧ W.cell? ⟨(ad.add (jn * 2)).block, (ad.add (jn * 2)).off + 1, none⟩ = some (.int .i64 (nx ps (k + 1)).2)) := fun K W h => by
    obtain ⟨ad', hA, -, d0, d1⟩ := HRA.out _ _ h jn (k + 1) hjn hmod
    obtain rfl := Option.some.inj hA
    exact ⟨d0, d1⟩
   clear hmod hA' HG HRA HNO
   generalize hgx : nx ps k = a at *
   generalize hgy : nx ps (k + 1) = b at *
   clear hgx hgy
   obtain ⟨c0, c1⟩ := HB.pt List.mem_cons_self
   go_upto_region 4 with (fail)
   have hq3 := HB.new #[.int .i64 a.1, .int .i64 a.2] 35
   clear c0 c1 d0 d1 d2 d3 HB
   generalize (World.alloc _ _) = W3 at hq3 ⊢
   generalize wr.heap.size = g3 at hq3 ⊢
   obtain ⟨d2, d3⟩ := HRY.out _ _ hq3
   go_upto_region 5 with (fail)
   have hq4 := hq3.new #[.int .i64 b.1, .int .i64 b.2] 35
   clear d2 d3 HRY hq3
   generalize (World.alloc _ _) = W4 at hq4 ⊢
   generalize W3.heap.size = g4 at hq4 ⊢
   have HQ4 := Lib.hid hq4
   obtain ⟨c0, c1⟩ := hq4.pt (.tail _ (.tail _ (.head _)))
   obtain ⟨c2, c3⟩ := hq4.pt (.tail _ (.head _))
   obtain ⟨c4, c5⟩ := hq4.pt (.head _)
   clear hq4
   go_upto_region 6 with (go_at_call 89; go_must (refine (On_good a b p HGD.out _).mono ?_; rintro e' W5 ⟨rfl, hB⟩; have hq5 := HQ4.out.on hB; clear hB))
   clear c0 c1 c2 c3 c4 c5
   have HQ6 := Lib.hid hq5
   obtain ⟨c0, c1⟩ := hq5.pt (.tail _ (.tail _ (.head _)))
   obtain ⟨c2, c3⟩ := hq5.pt (.tail _ (.head _))
   obtain ⟨c4, c5⟩ := hq5.pt (.head _)
   clear hq5
   cases ho : onB a b p
   ·have HN := Lib.hid (HGN.out fun h => by rw [onB_iff.2 h.1] at ho; cases ho)
    clear HGN HIN ho
    go_wp2_with fail
    go_roundg (ps.length - (k + 1))
    case measure => have := HGK.out; omega
    case rel => exact ⟨k + 1, by omega, rfl, by go_num, HN.out, HQ6.out.sub (by simp)⟩
   ·have HO : Hid (OnS a b p) := onB_iff.1 ho
    clear ho
    have hw : (p.1 = a.1 ∧ p.2 = a.2) ∨ ¬ p.1 = a.1 ∨ (p.1 = a.1 ∧ ¬ p.2 = a.2) := by omega
    have hw2 : (p.1 = b.1 ∧ p.2 = b.2) ∨ ¬ p.1 = b.1 ∨ (p.1 = b.1 ∧ ¬ p.2 = b.2) := by omega
    rcases hw with ⟨h1, h2⟩ | h1 | ⟨h1, h2⟩
    ·have HN := Lib.hid (HGN.out fun h => h.2.1 (Prod.ext h1 h2))
     have e1 : (p.1 == a.1) = true := by simpa using h1
     have e2 : (p.2 == a.2) = true := by simpa using h2
     clear HGN HIN hw2 h1 h2
     go_wp2_with fail
     go_roundg (ps.length - (k + 1))
     case measure => have := HGK.out; omega
     case rel => exact ⟨k + 1, by omega, rfl, by go_num, HN.out, HQ6.out.sub (by simp)⟩
    ·have e1 : (p.1 == a.1) = false := by simpa using h1
     have HNA : Hid (p ≠ a) := fun e => h1 (by rw [e])
     clear h1
     rcases hw2 with ⟨h1, h2⟩ | h1 | ⟨h1, h2⟩
     ·have HN := Lib.hid (HGN.out fun h => h.2.2 (Prod.ext h1 h2))
      have e3 : (p.1 == b.1) = true := by simpa using h1
      have e4 : (p.2 == b.2) = true := by simpa using h2
      clear HGN HIN h1 h2
      go_wp2_with fail
      go_roundg (ps.length - (k + 1))
      case measure => have := HGK.out; omega
      case rel => exact ⟨k + 1, by omega, rfl, by go_num, HN.out, HQ6.out.sub (by simp)⟩
     ·have e3 : (p.1 == b.1) = false := by simpa using h1
      have HPC := Lib.hid (HIN.out ⟨HO.out, HNA.out, fun e => h1 (by rw [e])⟩)
      clear h1 HGN HIN
      go_upto_region 7 with (fail)
      clear c0 c1 c2 c3 c4 c5
      obtain ⟨kn, hkn⟩ : ∃ n, k + 1 = n := ⟨_, rfl⟩
      have k1 : (k : Int) + 1 = (kn : Int) := by omega
      have k2 : (0 : Int) ≤ (kn : Int) := by omega
      have k3 : (kn : Int) ≤ (ps.length : Int) := by omega
      have k4 : (kn : Int) ≤ (cap : Int) := by omega
      have k5 : (ps.length : Int) ≤ (cap : Int) := by omega
      have k6 : kn ≤ ps.length := by omega
      have k7 : kn ≤ cap := by omega
      rw [k1] at b6
      have hH := HQ6.out.drew
      have hl1 : (ps.take kn).length = kn := by rw [List.length_take]; omega
      have hl3 : (ps.drop kn).length = ps.length - kn := List.length_drop
      rw [hkn] at HPC
      by_cases hc : cap = kn
      ·have k8 : ¬ kn < cap := by omega
       refine wp_region_held_drew (S := fun W => W.cell? ⟨g0, 0, none⟩ = some (.int .i64 p.1) ∧ W.cell? ⟨g0, 1, none⟩ = some (.int .i64 p.2)) (by kernel_rfl) ?_ (fun hHeld => ?_)
       ·exact hH.pt (.tail _ (.tail _ (.head _)))
       refine tZ 0 ?_; refine tZ 1 ?_; refine tZ 2 ?_; refine tZ 3 ?_; refine tZ 4 ?_; refine tZ 6 ?_; refine tZ 7 ?_; refine tZ 8 ?_; refine tZ 9 ?_
       have h5 := HQ6.out.new #[.int .i64 p.1, .int .i64 p.2] 35
       refine wpAnyH_ready (rs := [5]) (by decide +kernel) (by simp) ?_
       refine AllReadyH.cons rfl (fun K hK => ?_) AllReadyH.nil
       (try simp only [jA, jB, jC])
       go_simp
       refine hK.out _ _ ?_ (fun hHeld => ?_)
       focus ((try dsimp only); exact h5.drew.pt (.tail _ (.tail _ (.tail _ (.head _)))); done)
       clear hK K
       (try simp only [Act.put, jA, jB, jC, jD, jE, jF])
       have h10 := (h5.new' #[.slice (some ad) kn kn, .slice (some ⟨W5.heap.size, 0, none⟩) 1 1, .slice (some ad) (ps.length - kn) 0] 23 (n := W5.heap.size + 1) (by simp)).drew
       refine wpAnyH_ready (rs := [10]) (by decide +kernel) (by simp) ?_
       refine AllReadyH.cons rfl (fun K hK => ?_) AllReadyH.nil
       (try simp only [jA, jB, jC])
       go_simp
       refine hK.out _ _ ?_ (fun hHeld => ?_)
       focus ((try dsimp only); exact h10.pt (.tail _ (.tail _ (.tail _ (.tail _ (.head _))))); done)
       clear hK K
       (try simp only [Act.put, jA, jB, jC, jD, jE, jF])
       have hb10 := (h10.2.1 _ (.head _)).1
       have hp5 := pts_of (ps := [p]) (h10.2.1 _ (.tail _ (.head _))).1 (h10.lt (.tail _ (.head _)))
       have hr10 := HR.out _ _ h10
       have HCT := Lib.hid (concat_three (ps.take kn) [p] (ps.drop kn) (some ad) (some ⟨W5.heap.size, 0, none⟩) (some ad) _ 1 _ (W5.heap.size + 1) 3 (fun e => by cases e) (fun e => by cases e) (fun e => by cases e) (by simp) (by have := HNB.out; rw [hl1, hl3]; simp only [List.length_cons, List.length_nil]; omega) _ (by rw [hl1, hl3]; exact hb10) (Pts.take kn hr10) hp5 (Pts.dropAll hr10 (fun h => absurd h (by omega))))
       refine wpAnyH_ready (rs := [11]) (by decide +kernel) (by simp) ?_
       refine AllReadyH.cons rfl (fun K hK => ?_) AllReadyH.nil
       (try simp only [jA, jB, jC])
       go_simp
       (go_at_call 74; refine HCT.out.mono ?_; rintro e' W9 ⟨v, rfl, HV⟩; have h11 := h10.on HV.1)
       refine hK.out _ _ ?_ (fun hHeld => ?_)
       focus ((try dsimp only); exact h11.pt (.tail _ (.tail _ (.tail _ (.tail _ (.head _))))); done)
       clear hK K
       (try simp only [Act.put, jA, jB, jC, jD, jE, jF])
       refine tZ 12 ?_
       refine wpAnyH_done (by decide +kernel) ?_ _
       go_wp2
       go_ret
       exact ⟨_, rfl, by rw [HPC.out]; exact HV.base h10.1⟩
      ·have k8 : kn < cap := by omega
       have k9 : ¬ cap = kn := by omega
       refine wp_region_held_drew (S := fun W => W.cell? ⟨g0, 0, none⟩ = some (.int .i64 p.1) ∧ W.cell? ⟨g0, 1, none⟩ = some (.int .i64 p.2)) (by kernel_rfl) ?_ (fun hHeld => ?_)
       ·exact hH.pt (.tail _ (.tail _ (.head _)))
       refine tZ 0 ?_; refine tZ 1 ?_; refine tZ 2 ?_; refine tZ 3 ?_; refine tZ 4 ?_; refine tZ 6 ?_; refine tZ 7 ?_; refine tZ 8 ?_; refine tZ 9 ?_
       have h5 := HQ6.out.new #[.int .i64 p.1, .int .i64 p.2] 35
       refine wpAnyH_ready (rs := [5]) (by decide +kernel) (by simp) ?_
       refine AllReadyH.cons rfl (fun K hK => ?_) AllReadyH.nil
       (try simp only [jA, jB, jC])
       go_simp
       refine hK.out _ _ ?_ (fun hHeld => ?_)
       focus ((try dsimp only); exact h5.drew.pt (.tail _ (.tail _ (.tail _ (.head _)))); done)
       clear hK K
       (try simp only [Act.put, jA, jB, jC, jD, jE, jF])
       have h10 := (h5.new' #[.slice (some ad) kn cap, .slice (some ⟨W5.heap.size, 0, none⟩) 1 1, .slice (some (ad.add (kn * 2))) (ps.length - kn) (cap - kn)] 23 (n := W5.heap.size + 1) (by simp)).drew
       refine wpAnyH_ready (rs := [10]) (by decide +kernel) (by simp) ?_
       refine AllReadyH.cons rfl (fun K hK => ?_) AllReadyH.nil
       (try simp only [jA, jB, jC])
       go_simp
       refine hK.out _ _ ?_ (fun hHeld => ?_)
       focus ((try dsimp only); exact h10.pt (.tail _ (.tail _ (.tail _ (.tail _ (.head _))))); done)
       clear hK K
       (try simp only [Act.put, jA, jB, jC, jD, jE, jF])
       have hb10 := (h10.2.1 _ (.head _)).1
       have hp5 := pts_of (ps := [p]) (h10.2.1 _ (.tail _ (.head _))).1 (h10.lt (.tail _ (.head _)))
       have hr10 := HR.out _ _ h10
       have HCT := Lib.hid (concat_three (ps.take kn) [p] (ps.drop kn) (some ad) (some ⟨W5.heap.size, 0, none⟩) (some (ad.add (kn * 2))) _ 1 _ (W5.heap.size + 1) 3 (fun e => by cases e) (fun e => by cases e) (fun e => by cases e) (by simp) (by have := HNB.out; rw [hl1, hl3]; simp only [List.length_cons, List.length_nil]; omega) _ (by rw [hl1, hl3]; exact hb10) (Pts.take kn hr10) hp5 (Pts.dropAll hr10 (fun _ => rfl)))
       refine wpAnyH_ready (rs := [11]) (by decide +kernel) (by simp) ?_
       refine AllReadyH.cons rfl (fun K hK => ?_) AllReadyH.nil
       (try simp only [jA, jB, jC])
       go_simp
       (go_at_call 74; refine HCT.out.mono ?_; rintro e' W9 ⟨v, rfl, HV⟩; have h11 := h10.on HV.1)
       refine hK.out _ _ ?_ (fun hHeld => ?_)
       focus ((try dsimp only); exact h11.pt (.tail _ (.tail _ (.tail _ (.tail _ (.head _))))); done)
       clear hK K
       (try simp only [Act.put, jA, jB, jC, jD, jE, jF])
       refine tZ 12 ?_
       refine wpAnyH_done (by decide +kernel) ?_ _
       go_wp2
       go_ret
       exact ⟨_, rfl, by rw [HPC.out]; exact HV.base h10.1⟩
     ·have e3 : (p.1 == b.1) = true := by simpa using h1
      have e4 : (p.2 == b.2) = false := by simpa using h2
      have HPC := Lib.hid (HIN.out ⟨HO.out, HNA.out, fun e => h2 (by rw [e])⟩)
      clear h1 h2 HGN HIN
      go_upto_region 7 with (fail)
      clear c0 c1 c2 c3 c4 c5
      obtain ⟨kn, hkn⟩ : ∃ n, k + 1 = n := ⟨_, rfl⟩
      have k1 : (k : Int) + 1 = (kn : Int) := by omega
      have k2 : (0 : Int) ≤ (kn : Int) := by omega
      have k3 : (kn : Int) ≤ (ps.length : Int) := by omega
      have k4 : (kn : Int) ≤ (cap : Int) := by omega
      have k5 : (ps.length : Int) ≤ (cap : Int) := by omega
      have k6 : kn ≤ ps.length := by omega
      have k7 : kn ≤ cap := by omega
      rw [k1] at b6
      have hH := HQ6.out.drew
      have hl1 : (ps.take kn).length = kn := by rw [List.length_take]; omega
      have hl3 : (ps.drop kn).length = ps.length - kn := List.length_drop
      rw [hkn] at HPC
      by_cases hc : cap = kn
      ·have k8 : ¬ kn < cap := by omega
       refine wp_region_held_drew (S := fun W => W.cell? ⟨g0, 0, none⟩ = some (.int .i64 p.1) ∧ W.cell? ⟨g0, 1, none⟩ = some (.int .i64 p.2)) (by kernel_rfl) ?_ (fun hHeld => ?_)
       ·exact hH.pt (.tail _ (.tail _ (.head _)))
       refine tZ 0 ?_; refine tZ 1 ?_; refine tZ 2 ?_; refine tZ 3 ?_; refine tZ 4 ?_; refine tZ 6 ?_; refine tZ 7 ?_; refine tZ 8 ?_; refine tZ 9 ?_
       have h5 := HQ6.out.new #[.int .i64 p.1, .int .i64 p.2] 35
       refine wpAnyH_ready (rs := [5]) (by decide +kernel) (by simp) ?_
       refine AllReadyH.cons rfl (fun K hK => ?_) AllReadyH.nil
       (try simp only [jA, jB, jC])
       go_simp
       refine hK.out _ _ ?_ (fun hHeld => ?_)
       focus ((try dsimp only); exact h5.drew.pt (.tail _ (.tail _ (.tail _ (.head _)))); done)
       clear hK K
       (try simp only [Act.put, jA, jB, jC, jD, jE, jF])
       have h10 := (h5.new' #[.slice (some ad) kn kn, .slice (some ⟨W5.heap.size, 0, none⟩) 1 1, .slice (some ad) (ps.length - kn) 0] 23 (n := W5.heap.size + 1) (by simp)).drew
       refine wpAnyH_ready (rs := [10]) (by decide +kernel) (by simp) ?_
       refine AllReadyH.cons rfl (fun K hK => ?_) AllReadyH.nil
       (try simp only [jA, jB, jC])
       go_simp
       refine hK.out _ _ ?_ (fun hHeld => ?_)
       focus ((try dsimp only); exact h10.pt (.tail _ (.tail _ (.tail _ (.tail _ (.head _))))); done)
       clear hK K
       (try simp only [Act.put, jA, jB, jC, jD, jE, jF])
       have hb10 := (h10.2.1 _ (.head _)).1
       have hp5 := pts_of (ps := [p]) (h10.2.1 _ (.tail _ (.head _))).1 (h10.lt (.tail _ (.head _)))
       have hr10 := HR.out _ _ h10
       have HCT := Lib.hid (concat_three (ps.take kn) [p] (ps.drop kn) (some ad) (some ⟨W5.heap.size, 0, none⟩) (some ad) _ 1 _ (W5.heap.size + 1) 3 (fun e => by cases e) (fun e => by cases e) (fun e => by cases e) (by simp) (by have := HNB.out; rw [hl1, hl3]; simp only [List.length_cons, List.length_nil]; omega) _ (by rw [hl1, hl3]; exact hb10) (Pts.take kn hr10) hp5 (Pts.dropAll hr10 (fun h => absurd h (by omega))))
       refine wpAnyH_ready (rs := [11]) (by decide +kernel) (by simp) ?_
       refine AllReadyH.cons rfl (fun K hK => ?_) AllReadyH.nil
       (try simp only [jA, jB, jC])
       go_simp
       (go_at_call 74; refine HCT.out.mono ?_; rintro e' W9 ⟨v, rfl, HV⟩; have h11 := h10.on HV.1)
       refine hK.out _ _ ?_ (fun hHeld => ?_)
       focus ((try dsimp only); exact h11.pt (.tail _ (.tail _ (.tail _ (.tail _ (.head _))))); done)
       clear hK K
       (try simp only [Act.put, jA, jB, jC, jD, jE, jF])
       refine tZ 12 ?_
       refine wpAnyH_done (by decide +kernel) ?_ _
       go_wp2
       go_ret
       exact ⟨_, rfl, by rw [HPC.out]; exact HV.base h10.1⟩
      ·have k8 : kn < cap := by omega
       have k9 : ¬ cap = kn := by omega
       refine wp_region_held_drew (S := fun W => W.cell? ⟨g0, 0, none⟩ = some (.int .i64 p.1) ∧ W.cell? ⟨g0, 1, none⟩ = some (.int .i64 p.2)) (by kernel_rfl) ?_ (fun hHeld => ?_)
       ·exact hH.pt (.tail _ (.tail _ (.head _)))
       refine tZ 0 ?_; refine tZ 1 ?_; refine tZ 2 ?_; refine tZ 3 ?_; refine tZ 4 ?_; refine tZ 6 ?_; refine tZ 7 ?_; refine tZ 8 ?_; refine tZ 9 ?_
       have h5 := HQ6.out.new #[.int .i64 p.1, .int .i64 p.2] 35
       refine wpAnyH_ready (rs := [5]) (by decide +kernel) (by simp) ?_
       refine AllReadyH.cons rfl (fun K hK => ?_) AllReadyH.nil
       (try simp only [jA, jB, jC])
       go_simp
       refine hK.out _ _ ?_ (fun hHeld => ?_)
       focus ((try dsimp only); exact h5.drew.pt (.tail _ (.tail _ (.tail _ (.head _)))); done)
       clear hK K
       (try simp only [Act.put, jA, jB, jC, jD, jE, jF])
       have h10 := (h5.new' #[.slice (some ad) kn cap, .slice (some ⟨W5.heap.size, 0, none⟩) 1 1, .slice (some (ad.add (kn * 2))) (ps.length - kn) (cap - kn)] 23 (n := W5.heap.size + 1) (by simp)).drew
       refine wpAnyH_ready (rs := [10]) (by decide +kernel) (by simp) ?_
       refine AllReadyH.cons rfl (fun K hK => ?_) AllReadyH.nil
       (try simp only [jA, jB, jC])
       go_simp
       refine hK.out _ _ ?_ (fun hHeld => ?_)
       focus ((try dsimp only); exact h10.pt (.tail _ (.tail _ (.tail _ (.tail _ (.head _))))); done)
       clear hK K
       (try simp only [Act.put, jA, jB, jC, jD, jE, jF])
       have hb10 := (h10.2.1 _ (.head _)).1
       have hp5 := pts_of (ps := [p]) (h10.2.1 _ (.tail _ (.head _))).1 (h10.lt (.tail _ (.head _)))
       have hr10 := HR.out _ _ h10
       have HCT := Lib.hid (concat_three (ps.take kn) [p] (ps.drop kn) (some ad) (some ⟨W5.heap.size, 0, none⟩) (some (ad.add (kn * 2))) _ 1 _ (W5.heap.size + 1) 3 (fun e => by cases e) (fun e => by cases e) (fun e => by cases e) (by simp) (by have := HNB.out; rw [hl1, hl3]; simp only [List.length_cons, List.length_nil]; omega) _ (by rw [hl1, hl3]; exact hb10) (Pts.take kn hr10) hp5 (Pts.dropAll hr10 (fun _ => rfl)))
       refine wpAnyH_ready (rs := [11]) (by decide +kernel) (by simp) ?_
       refine AllReadyH.cons rfl (fun K hK => ?_) AllReadyH.nil
       (try simp only [jA, jB, jC])
       go_simp
       (go_at_call 74; refine HCT.out.mono ?_; rintro e' W9 ⟨v, rfl, HV⟩; have h11 := h10.on HV.1)
       refine hK.out _ _ ?_ (fun hHeld => ?_)
       focus ((try dsimp only); exact h11.pt (.tail _ (.tail _ (.tail _ (.tail _ (.head _))))); done)
       clear hK K
       (try simp only [Act.put, jA, jB, jC, jD, jE, jF])
       refine tZ 12 ?_
       refine wpAnyH_done (by decide +kernel) ?_ _
       go_wp2
       go_ret
       exact ⟨_, rfl, by rw [HPC.out]; exact HV.base h10.1⟩
    ·have e1 : (p.1 == a.1) = true := by simpa using h1
     have e2 : (p.2 == a.2) = false := by simpa using h2
     have HNA : Hid (p ≠ a) := fun e => h2 (by rw [e])
     clear h1 h2
     rcases hw2 with ⟨h1, h2⟩ | h1 | ⟨h1, h2⟩
     ·have HN := Lib.hid (HGN.out fun h => h.2.2 (Prod.ext h1 h2))
      have e3 : (p.1 == b.1) = true := by simpa using h1
      have e4 : (p.2 == b.2) = true := by simpa using h2
      clear HGN HIN h1 h2
      go_wp2_with fail
      go_roundg (ps.length - (k + 1))
      case measure => have := HGK.out; omega
      case rel => exact ⟨k + 1, by omega, rfl, by go_num, HN.out, HQ6.out.sub (by simp)⟩
     ·have e3 : (p.1 == b.1) = false := by simpa using h1
      have HPC := Lib.hid (HIN.out ⟨HO.out, HNA.out, fun e => h1 (by rw [e])⟩)
      clear h1 HGN HIN
      go_upto_region 7 with (fail)
      clear c0 c1 c2 c3 c4 c5
      obtain ⟨kn, hkn⟩ : ∃ n, k + 1 = n := ⟨_, rfl⟩
      have k1 : (k : Int) + 1 = (kn : Int) := by omega
      have k2 : (0 : Int) ≤ (kn : Int) := by omega
      have k3 : (kn : Int) ≤ (ps.length : Int) := by omega
      have k4 : (kn : Int) ≤ (cap : Int) := by omega
      have k5 : (ps.length : Int) ≤ (cap : Int) := by omega
      have k6 : kn ≤ ps.length := by omega
      have k7 : kn ≤ cap := by omega
      rw [k1] at b6
      have hH := HQ6.out.drew
      have hl1 : (ps.take kn).length = kn := by rw [List.length_take]; omega
      have hl3 : (ps.drop kn).length = ps.length - kn := List.length_drop
      rw [hkn] at HPC
      by_cases hc : cap = kn
      ·have k8 : ¬ kn < cap := by omega
       refine wp_region_held_drew (S := fun W => W.cell? ⟨g0, 0, none⟩ = some (.int .i64 p.1) ∧ W.cell? ⟨g0, 1, none⟩ = some (.int .i64 p.2)) (by kernel_rfl) ?_ (fun hHeld => ?_)
       ·exact hH.pt (.tail _ (.tail _ (.head _)))
       refine tZ 0 ?_; refine tZ 1 ?_; refine tZ 2 ?_; refine tZ 3 ?_; refine tZ 4 ?_; refine tZ 6 ?_; refine tZ 7 ?_; refine tZ 8 ?_; refine tZ 9 ?_
       have h5 := HQ6.out.new #[.int .i64 p.1, .int .i64 p.2] 35
       refine wpAnyH_ready (rs := [5]) (by decide +kernel) (by simp) ?_
       refine AllReadyH.cons rfl (fun K hK => ?_) AllReadyH.nil
       (try simp only [jA, jB, jC])
       go_simp
       refine hK.out _ _ ?_ (fun hHeld => ?_)
       focus ((try dsimp only); exact h5.drew.pt (.tail _ (.tail _ (.tail _ (.head _)))); done)
       clear hK K
       (try simp only [Act.put, jA, jB, jC, jD, jE, jF])
       have h10 := (h5.new' #[.slice (some ad) kn kn, .slice (some ⟨W5.heap.size, 0, none⟩) 1 1, .slice (some ad) (ps.length - kn) 0] 23 (n := W5.heap.size + 1) (by simp)).drew
       refine wpAnyH_ready (rs := [10]) (by decide +kernel) (by simp) ?_
       refine AllReadyH.cons rfl (fun K hK => ?_) AllReadyH.nil
       (try simp only [jA, jB, jC])
       go_simp
       refine hK.out _ _ ?_ (fun hHeld => ?_)
       focus ((try dsimp only); exact h10.pt (.tail _ (.tail _ (.tail _ (.tail _ (.head _))))); done)
       clear hK K
       (try simp only [Act.put, jA, jB, jC, jD, jE, jF])
       have hb10 := (h10.2.1 _ (.head _)).1
       have hp5 := pts_of (ps := [p]) (h10.2.1 _ (.tail _ (.head _))).1 (h10.lt (.tail _ (.head _)))
       have hr10 := HR.out _ _ h10
       have HCT := Lib.hid (concat_three (ps.take kn) [p] (ps.drop kn) (some ad) (some ⟨W5.heap.size, 0, none⟩) (some ad) _ 1 _ (W5.heap.size + 1) 3 (fun e => by cases e) (fun e => by cases e) (fun e => by cases e) (by simp) (by have := HNB.out; rw [hl1, hl3]; simp only [List.length_cons, List.length_nil]; omega) _ (by rw [hl1, hl3]; exact hb10) (Pts.take kn hr10) hp5 (Pts.dropAll hr10 (fun h => absurd h (by omega))))
       refine wpAnyH_ready (rs := [11]) (by decide +kernel) (by simp) ?_
       refine AllReadyH.cons rfl (fun K hK => ?_) AllReadyH.nil
       (try simp only [jA, jB, jC])
       go_simp
       (go_at_call 74; refine HCT.out.mono ?_; rintro e' W9 ⟨v, rfl, HV⟩; have h11 := h10.on HV.1)
       refine hK.out _ _ ?_ (fun hHeld => ?_)
       focus ((try dsimp only); exact h11.pt (.tail _ (.tail _ (.tail _ (.tail _ (.head _))))); done)
       clear hK K
       (try simp only [Act.put, jA, jB, jC, jD, jE, jF])
       refine tZ 12 ?_
       refine wpAnyH_done (by decide +kernel) ?_ _
       go_wp2
       go_ret
       exact ⟨_, rfl, by rw [HPC.out]; exact HV.base h10.1⟩
      ·have k8 : kn < cap := by omega
       have k9 : ¬ cap = kn := by omega
       refine wp_region_held_drew (S := fun W => W.cell? ⟨g0, 0, none⟩ = some (.int .i64 p.1) ∧ W.cell? ⟨g0, 1, none⟩ = some (.int .i64 p.2)) (by kernel_rfl) ?_ (fun hHeld => ?_)
       ·exact hH.pt (.tail _ (.tail _ (.head _)))
       refine tZ 0 ?_; refine tZ 1 ?_; refine tZ 2 ?_; refine tZ 3 ?_; refine tZ 4 ?_; refine tZ 6 ?_; refine tZ 7 ?_; refine tZ 8 ?_; refine tZ 9 ?_
       have h5 := HQ6.out.new #[.int .i64 p.1, .int .i64 p.2] 35
       refine wpAnyH_ready (rs := [5]) (by decide +kernel) (by simp) ?_
       refine AllReadyH.cons rfl (fun K hK => ?_) AllReadyH.nil
       (try simp only [jA, jB, jC])
       go_simp
       refine hK.out _ _ ?_ (fun hHeld => ?_)
       focus ((try dsimp only); exact h5.drew.pt (.tail _ (.tail _ (.tail _ (.head _)))); done)
       clear hK K
       (try simp only [Act.put, jA, jB, jC, jD, jE, jF])
       have h10 := (h5.new' #[.slice (some ad) kn cap, .slice (some ⟨W5.heap.size, 0, none⟩) 1 1, .slice (some (ad.add (kn * 2))) (ps.length - kn) (cap - kn)] 23 (n := W5.heap.size + 1) (by simp)).drew
       refine wpAnyH_ready (rs := [10]) (by decide +kernel) (by simp) ?_
       refine AllReadyH.cons rfl (fun K hK => ?_) AllReadyH.nil
       (try simp only [jA, jB, jC])
       go_simp
       refine hK.out _ _ ?_ (fun hHeld => ?_)
       focus ((try dsimp only); exact h10.pt (.tail _ (.tail _ (.tail _ (.tail _ (.head _))))); done)
       clear hK K
       (try simp only [Act.put, jA, jB, jC, jD, jE, jF])
       have hb10 := (h10.2.1 _ (.head _)).1
       have hp5 := pts_of (ps := [p]) (h10.2.1 _ (.tail _ (.head _))).1 (h10.lt (.tail _ (.head _)))
       have hr10 := HR.out _ _ h10
       have HCT := Lib.hid (concat_three (ps.take kn) [p] (ps.drop kn) (some ad) (some ⟨W5.heap.size, 0, none⟩) (some (ad.add (kn * 2))) _ 1 _ (W5.heap.size + 1) 3 (fun e => by cases e) (fun e => by cases e) (fun e => by cases e) (by simp) (by have := HNB.out; rw [hl1, hl3]; simp only [List.length_cons, List.length_nil]; omega) _ (by rw [hl1, hl3]; exact hb10) (Pts.take kn hr10) hp5 (Pts.dropAll hr10 (fun _ => rfl)))
       refine wpAnyH_ready (rs := [11]) (by decide +kernel) (by simp) ?_
       refine AllReadyH.cons rfl (fun K hK => ?_) AllReadyH.nil
       (try simp only [jA, jB, jC])
       go_simp
       (go_at_call 74; refine HCT.out.mono ?_; rintro e' W9 ⟨v, rfl, HV⟩; have h11 := h10.on HV.1)
       refine hK.out _ _ ?_ (fun hHeld => ?_)
       focus ((try dsimp only); exact h11.pt (.tail _ (.tail _ (.tail _ (.tail _ (.head _))))); done)
       clear hK K
       (try simp only [Act.put, jA, jB, jC, jD, jE, jF])
       refine tZ 12 ?_
       refine wpAnyH_done (by decide +kernel) ?_ _
       go_wp2
       go_ret
       exact ⟨_, rfl, by rw [HPC.out]; exact HV.base h10.1⟩
     ·have e3 : (p.1 == b.1) = true := by simpa using h1
      have e4 : (p.2 == b.2) = false := by simpa using h2
      have HPC := Lib.hid (HIN.out ⟨HO.out, HNA.out, fun e => h2 (by rw [e])⟩)
      clear h1 h2 HGN HIN
      go_upto_region 7 with (fail)
      clear c0 c1 c2 c3 c4 c5
      obtain ⟨kn, hkn⟩ : ∃ n, k + 1 = n := ⟨_, rfl⟩
      have k1 : (k : Int) + 1 = (kn : Int) := by omega
      have k2 : (0 : Int) ≤ (kn : Int) := by omega
      have k3 : (kn : Int) ≤ (ps.length : Int) := by omega
      have k4 : (kn : Int) ≤ (cap : Int) := by omega
      have k5 : (ps.length : Int) ≤ (cap : Int) := by omega
      have k6 : kn ≤ ps.length := by omega
      have k7 : kn ≤ cap := by omega
      rw [k1] at b6
      have hH := HQ6.out.drew
      have hl1 : (ps.take kn).length = kn := by rw [List.length_take]; omega
      have hl3 : (ps.drop kn).length = ps.length - kn := List.length_drop
      rw [hkn] at HPC
      by_cases hc : cap = kn
      ·have k8 : ¬ kn < cap := by omega
       refine wp_region_held_drew (S := fun W => W.cell? ⟨g0, 0, none⟩ = some (.int .i64 p.1) ∧ W.cell? ⟨g0, 1, none⟩ = some (.int .i64 p.2)) (by kernel_rfl) ?_ (fun hHeld => ?_)
       ·exact hH.pt (.tail _ (.tail _ (.head _)))
       refine tZ 0 ?_; refine tZ 1 ?_; refine tZ 2 ?_; refine tZ 3 ?_; refine tZ 4 ?_; refine tZ 6 ?_; refine tZ 7 ?_; refine tZ 8 ?_; refine tZ 9 ?_
       have h5 := HQ6.out.new #[.int .i64 p.1, .int .i64 p.2] 35
       refine wpAnyH_ready (rs := [5]) (by decide +kernel) (by simp) ?_
       refine AllReadyH.cons rfl (fun K hK => ?_) AllReadyH.nil
       (try simp only [jA, jB, jC])
       go_simp
       refine hK.out _ _ ?_ (fun hHeld => ?_)
       focus ((try dsimp only); exact h5.drew.pt (.tail _ (.tail _ (.tail _ (.head _)))); done)
       clear hK K
       (try simp only [Act.put, jA, jB, jC, jD, jE, jF])
       have h10 := (h5.new' #[.slice (some ad) kn kn, .slice (some ⟨W5.heap.size, 0, none⟩) 1 1, .slice (some ad) (ps.length - kn) 0] 23 (n := W5.heap.size + 1) (by simp)).drew
       refine wpAnyH_ready (rs := [10]) (by decide +kernel) (by simp) ?_
       refine AllReadyH.cons rfl (fun K hK => ?_) AllReadyH.nil
       (try simp only [jA, jB, jC])
       go_simp
       refine hK.out _ _ ?_ (fun hHeld => ?_)
       focus ((try dsimp only); exact h10.pt (.tail _ (.tail _ (.tail _ (.tail _ (.head _))))); done)
       clear hK K
       (try simp only [Act.put, jA, jB, jC, jD, jE, jF])
       have hb10 := (h10.2.1 _ (.head _)).1
       have hp5 := pts_of (ps := [p]) (h10.2.1 _ (.tail _ (.head _))).1 (h10.lt (.tail _ (.head _)))
       have hr10 := HR.out _ _ h10
       have HCT := Lib.hid (concat_three (ps.take kn) [p] (ps.drop kn) (some ad) (some ⟨W5.heap.size, 0, none⟩) (some ad) _ 1 _ (W5.heap.size + 1) 3 (fun e => by cases e) (fun e => by cases e) (fun e => by cases e) (by simp) (by have := HNB.out; rw [hl1, hl3]; simp only [List.length_cons, List.length_nil]; omega) _ (by rw [hl1, hl3]; exact hb10) (Pts.take kn hr10) hp5 (Pts.dropAll hr10 (fun h => absurd h (by omega))))
       refine wpAnyH_ready (rs := [11]) (by decide +kernel) (by simp) ?_
       refine AllReadyH.cons rfl (fun K hK => ?_) AllReadyH.nil
       (try simp only [jA, jB, jC])
       go_simp
       (go_at_call 74; refine HCT.out.mono ?_; rintro e' W9 ⟨v, rfl, HV⟩; have h11 := h10.on HV.1)
       refine hK.out _ _ ?_ (fun hHeld => ?_)
       focus ((try dsimp only); exact h11.pt (.tail _ (.tail _ (.tail _ (.tail _ (.head _))))); done)
       clear hK K
       (try simp only [Act.put, jA, jB, jC, jD, jE, jF])
       refine tZ 12 ?_
       refine wpAnyH_done (by decide +kernel) ?_ _
       go_wp2
       go_ret
       exact ⟨_, rfl, by rw [HPC.out]; exact HV.base h10.1⟩
      ·have k8 : kn < cap := by omega
       have k9 : ¬ cap = kn := by omega
       refine wp_region_held_drew (S := fun W => W.cell? ⟨g0, 0, none⟩ = some (.int .i64 p.1) ∧ W.cell? ⟨g0, 1, none⟩ = some (.int .i64 p.2)) (by kernel_rfl) ?_ (fun hHeld => ?_)
       ·exact hH.pt (.tail _ (.tail _ (.head _)))
       refine tZ 0 ?_; refine tZ 1 ?_; refine tZ 2 ?_; refine tZ 3 ?_; refine tZ 4 ?_; refine tZ 6 ?_; refine tZ 7 ?_; refine tZ 8 ?_; refine tZ 9 ?_
       have h5 := HQ6.out.new #[.int .i64 p.1, .int .i64 p.2] 35
       refine wpAnyH_ready (rs := [5]) (by decide +kernel) (by simp) ?_
       refine AllReadyH.cons rfl (fun K hK => ?_) AllReadyH.nil
       (try simp only [jA, jB, jC])
       go_simp
       refine hK.out _ _ ?_ (fun hHeld => ?_)
       focus ((try dsimp only); exact h5.drew.pt (.tail _ (.tail _ (.tail _ (.head _)))); done)
       clear hK K
       (try simp only [Act.put, jA, jB, jC, jD, jE, jF])
       have h10 := (h5.new' #[.slice (some ad) kn cap, .slice (some ⟨W5.heap.size, 0, none⟩) 1 1, .slice (some (ad.add (kn * 2))) (ps.length - kn) (cap - kn)] 23 (n := W5.heap.size + 1) (by simp)).drew
       refine wpAnyH_ready (rs := [10]) (by decide +kernel) (by simp) ?_
       refine AllReadyH.cons rfl (fun K hK => ?_) AllReadyH.nil
       (try simp only [jA, jB, jC])
       go_simp
       refine hK.out _ _ ?_ (fun hHeld => ?_)
       focus ((try dsimp only); exact h10.pt (.tail _ (.tail _ (.tail _ (.tail _ (.head _))))); done)
       clear hK K
       (try simp only [Act.put, jA, jB, jC, jD, jE, jF])
       have hb10 := (h10.2.1 _ (.head _)).1
       have hp5 := pts_of (ps := [p]) (h10.2.1 _ (.tail _ (.head _))).1 (h10.lt (.tail _ (.head _)))
       have hr10 := HR.out _ _ h10
       have HCT := Lib.hid (concat_three (ps.take kn) [p] (ps.drop kn) (some ad) (some ⟨W5.heap.size, 0, none⟩) (some (ad.add (kn * 2))) _ 1 _ (W5.heap.size + 1) 3 (fun e => by cases e) (fun e => by cases e) (fun e => by cases e) (by simp) (by have := HNB.out; rw [hl1, hl3]; simp only [List.length_cons, List.length_nil]; omega) _ (by rw [hl1, hl3]; exact hb10) (Pts.take kn hr10) hp5 (Pts.dropAll hr10 (fun _ => rfl)))
       refine wpAnyH_ready (rs := [11]) (by decide +kernel) (by simp) ?_
       refine AllReadyH.cons rfl (fun K hK => ?_) AllReadyH.nil
       (try simp only [jA, jB, jC])
       go_simp
       (go_at_call 74; refine HCT.out.mono ?_; rintro e' W9 ⟨v, rfl, HV⟩; have h11 := h10.on HV.1)
       refine hK.out _ _ ?_ (fun hHeld => ?_)
       focus ((try dsimp only); exact h11.pt (.tail _ (.tail _ (.tail _ (.tail _ (.head _))))); done)
       clear hK K
       (try simp only [Act.put, jA, jB, jC, jD, jE, jF])
       refine tZ 12 ?_
       refine wpAnyH_done (by decide +kernel) ?_ _
       go_wp2
       go_ret
       exact ⟨_, rfl, by rw [HPC.out]; exact HV.base h10.1⟩
  ·obtain rfl : k = ps.length := by omega
   have HE : Hid (putC ps p = ps) := putC_off HNO.out
   have HBX := Lib.hid HB
   clear HB HNO HRA HG HR
   go_wp2_with (go_at_call 50; go_must (refine (HCL.out _ _ HBX.out).mono ?_; rintro e' W9 ⟨v, rfl, hv⟩; have HV := Lib.hid (hv.base HBX.out.1); clear hv))
   go_ret
   exact ⟨_, rfl, by rw [HE.out]; exact HV.out⟩
end Go.Proofs.YtaedlfiafnbceaaGreat

namespace Go.Proofs.YtaedlfiafnbceaaGreat
open Go.RowKit

theorem gdL_putC {r : List (Int × Int)} {p : Int × Int} (hg : gdL r = true) (hp : Gd p) : gdL (putC r p) = true := gdL_iff.2 fun q hq => by
 rcases mem_putC hq with h | rfl
 ·exact gdL_iff.1 hg q h
 ·exact hp
set_option maxRecDepth 100000 in
set_option maxHeartbeats 1000000 in
theorem withCorners_any (ps : List (Int × Int)) (A : Option Addr) (cap : Nat) (a b : Int × Int) (hs : Sound ps) (hg : gdL ps = true) (ha : Gd a) (hb : Gd b) (hn : ps.length ≤ 900) (hnil : NilOk A cap) (hcap : ps.length ≤ cap) (w : World) (hr : Pts w w.heap.size A ps) :
  Calls Tryz.prog 56 #[.slice A ps.length cap, .agg #[.int .i64 a.1, .int .i64 a.2], .agg #[.int .i64 b.1, .int .i64 b.2]] w fun e w' => ∃ v, e = .returned v ∧ Row w v (putC (putC ps a) b) w' := by
 have H1 := Lib.hid (fun K W (h : Hold w K W) => withCorner_any ps A cap a hs hg (gd_iff.2 ha) (by omega) hnil hcap W (hr.on h.1))
 have H2 := Lib.hid (fun A' c' W (hp : Pts W W.heap.size A' (putC ps a)) (hnil : NilOk A' c') (hc : (putC ps a).length ≤ c') => withCorner_any (putC ps a) A' c' b (putC_sound hs a).2.1 (gdL_putC hg ha) (gd_iff.2 hb) (by have := putC_len ps a; omega) hnil hc W hp)
 have HQ := ((Hold.refl w).new #[.int .i64 a.1, .int .i64 a.2] 35).new' #[.int .i64 b.1, .int .i64 b.2] 35 (n := w.heap.size + 1) (by simp)
 clear hr hs hg ha hb hnil hn
 go_enter Tryz.func56, Tryz.ntmps56
 go_upto_region 1 with (fail)
 generalize (World.alloc _ _) = W1 at HQ ⊢
 generalize w.heap.size + 1 = g1 at HQ ⊢
 obtain ⟨g0, hg0⟩ : ∃ g, w.heap.size = g := ⟨_, rfl⟩
 rw [hg0] at HQ ⊢
 have HG0 := Lib.hid hg0
 clear hg0
 have hH := HQ.drew
 refine wp_region_held_drew (S := fun W => (W.cell? ⟨g0, 0, none⟩ = some (.int .i64 a.1) ∧ W.cell? ⟨g0, 1, none⟩ = some (.int .i64 a.2)) ∧ W.cell? ⟨g1, 0, none⟩ = some (.int .i64 b.1) ∧ W.cell? ⟨g1, 1, none⟩ = some (.int .i64 b.2)) (by kernel_rfl) ?_ (fun hHeld => ?_)
 ·exact ⟨hH.pt (.tail _ (.head _)), hH.pt (.head _)⟩
 refine tZ 0 ?_; refine tZ 1 ?_; refine tZ 3 ?_
 refine wpAnyH_ready (rs := [2]) (by decide +kernel) (by simp) ?_
 refine AllReadyH.cons rfl (fun K hK => ?_) AllReadyH.nil
 (try simp only [jA, jB, jC])
 go_simp
 (go_at_call 72; refine (H1.out _ _ hH).mono ?_; rintro e' W2 ⟨v, rfl, hv⟩; have h2 := hH.on hv.1; have hv2 := hv.base hH.1; obtain ⟨A2, c2, rfl, hp2, hn2, hc2⟩ := hv.full)
 refine hK.out _ _ ?_ (fun hHeld => ?_)
 focus ((try dsimp only); exact ⟨h2.pt (.tail _ (.head _)), h2.pt (.head _)⟩; done)
 clear hK K
 (try simp only [Act.put, jA, jB, jC, jD, jE, jF])
 refine wpAnyH_ready (rs := [4]) (by decide +kernel) (by simp) ?_
 refine AllReadyH.cons rfl (fun K hK => ?_) AllReadyH.nil
 (try simp only [jA, jB, jC])
 go_simp
 (go_at_call 72; refine (H2.out _ _ _ hp2 hn2 hc2).mono ?_; rintro e' W3 ⟨v3, rfl, hv3⟩; have h3 := h2.on hv3.1; have hv4 := hv3.base h2.1)
 refine hK.out _ _ ?_ (fun hHeld => ?_)
 focus ((try dsimp only); exact ⟨h3.pt (.tail _ (.head _)), h3.pt (.head _)⟩; done)
 clear hK K
 (try simp only [Act.put, jA, jB, jC, jD, jE, jF])
 refine tZ 5 ?_
 refine wpAnyH_done (by decide +kernel) ?_ _
 go_wp2
 go_ret
 exact ⟨_, rfl, hv4⟩
set_option maxRecDepth 100000 in
set_option maxHeartbeats 1000000 in
theorem spans_any (path ps : List (Int × Int)) (A B : Option Addr) (ca cb : Nat) (h1 : 1 ≤ path.length) (hn : path.length ≤ 1000000) (hn2 : ps.length ≤ maxLen) (w : World) (hr : Pts w w.heap.size A path) (hq : Pts w w.heap.size B ps) :
  Calls Tryz.prog 54 #[.slice A path.length ca, .slice B ps.length cb] w fun e w' => e = .returned (.bool (decide (pF path ≠ pL path ∧ sdV ps (pF path) = 0 ∧ sdV ps (pL path) = 0))) ∧ Below w.heap.size w w' := by
 obtain ⟨a, ha⟩ : ∃ a, pF path = a := ⟨_, rfl⟩
 obtain ⟨b, hb⟩ : ∃ b, pL path = b := ⟨_, rfl⟩
 have HE := Lib.hid (fun W (h : Below w.heap.size w W) => ends_any path A ca a b ha hb h1 hn W (hr.on h))
 have HS := Lib.hid (fun p W (h : Below w.heap.size w W) => Side_any ps B cb p hn2 W (hq.on h))
 rw [ha, hb]
 clear hr hq ha hb hn hn2 h1
 have HS1 := Lib.hid (HS.out a)
 have HS2 := Lib.hid (HS.out b)
 generalize sdV ps a = va at *
 generalize sdV ps b = vb at *
 generalize sdE ps a = ea at *
 generalize sdE ps b = eb at *
 have hres : ∀ x y z : Bool, decide (a ≠ b) = x → decide (va = 0) = y → decide (vb = 0) = z → decide (a ≠ b ∧ va = 0 ∧ vb = 0) = (x && (y && z)) := fun x y z h1 h2 h3 => by rw [Bool.decide_and, Bool.decide_and, h1, h2, h3]
 have HRES := Lib.hid hres
 clear hres HS
 have HB0 := Below.refl w.heap.size w
 go_enter Tryz.func54, Tryz.ntmps54
 go_upto_region 2 with (go_at_call 55; go_must (refine (HE.out _ HB0).mono ?_; rintro e' W2 ⟨rfl, hB⟩; have HB2 := Lib.hid hB; clear hB))
 have HQ := (((Hold.refl w).on HB2.out).new #[.int .i64 a.1, .int .i64 a.2] 35).new' #[.int .i64 b.1, .int .i64 b.2] 35 (n := W2.heap.size + 1) (by simp)
 clear HE HB0 HB2
 generalize (World.alloc _ _) = W3 at HQ ⊢
 generalize W2.heap.size + 1 = g1 at HQ ⊢
 generalize W2.heap.size = g0 at HQ ⊢
 have HQ3 := Lib.hid HQ
 obtain ⟨⟨c0, c1, -⟩, c2, c3, -⟩ := HQ.pt2
 clear HQ
 go_wp2_with fail
 go_at_call 71
 refine (HS1.out _ HQ3.out.1).mono ?_
 rintro e' W4 ⟨rfl, hB⟩
 have hq := HQ3.out.on hB
 have HQ4 := Lib.hid hq
 clear c0 c1 c2 c3 hB
 obtain ⟨⟨c0, c1, -⟩, c2, c3, -⟩ := hq.pt2
 clear hq
 go_wp2_with fail
 go_at_call 71
 refine (HS2.out _ HQ4.out.1).mono ?_
 rintro e' W5 ⟨rfl, hB⟩
 have hq := HQ4.out.on hB
 have HQ5 := Lib.hid hq
 clear c0 c1 c2 c3 hB
 obtain ⟨⟨c0, c1, -⟩, c2, c3, -⟩ := hq.pt2
 clear hq
 have hw : (a.1 = b.1 ∧ a.2 = b.2) ∨ ¬ a.1 = b.1 ∨ (a.1 = b.1 ∧ ¬ a.2 = b.2) := by omega
 rcases hw with ⟨h1, h2⟩ | h1 | ⟨h1, h2⟩
 ·have HX := Lib.hid (HRES.out false _ _ (decide_eq_false (fun h => h (Prod.ext h1 h2))) rfl rfl)
  have e1 : (a.1 == b.1) = true := by simpa using h1
  have e2 : (a.2 == b.2) = true := by simpa using h2
  clear h1 h2
  go_wp2
  go_ret
  rw [HX.out]
  exact ⟨rfl, HQ5.out.1⟩
 ·have HA : Hid (decide (a ≠ b) = true) := decide_eq_true (fun e => h1 (by rw [e]))
  have e1 : (a.1 == b.1) = false := by simpa using h1
  clear h1
  by_cases h3 : va = 0
  ·have e3 : (va == 0) = true := by simpa using h3
   by_cases h4 : vb = 0
   ·have HX := Lib.hid (HRES.out true true true HA.out (decide_eq_true h3) (decide_eq_true h4))
    have e4 : (vb == 0) = true := by simpa using h4
    clear h3 h4
    go_wp2
    go_ret
    rw [HX.out]
    exact ⟨rfl, HQ5.out.1⟩
   ·have HX := Lib.hid (HRES.out true true false HA.out (decide_eq_true h3) (decide_eq_false h4))
    have e4 : (vb == 0) = false := by simpa using h4
    clear h3 h4
    go_wp2
    go_ret
    rw [HX.out]
    exact ⟨rfl, HQ5.out.1⟩
  ·have HX := Lib.hid (HRES.out true false _ HA.out (decide_eq_false h3) rfl)
   have e3 : (va == 0) = false := by simpa using h3
   clear h3
   go_wp2
   go_ret
   rw [HX.out]
   exact ⟨rfl, HQ5.out.1⟩
 ·have HA : Hid (decide (a ≠ b) = true) := decide_eq_true (fun e => h2 (by rw [e]))
  have e1 : (a.1 == b.1) = true := by simpa using h1
  have e2 : (a.2 == b.2) = false := by simpa using h2
  clear h1 h2
  by_cases h3 : va = 0
  ·have e3 : (va == 0) = true := by simpa using h3
   by_cases h4 : vb = 0
   ·have HX := Lib.hid (HRES.out true true true HA.out (decide_eq_true h3) (decide_eq_true h4))
    have e4 : (vb == 0) = true := by simpa using h4
    clear h3 h4
    go_wp2
    go_ret
    rw [HX.out]
    exact ⟨rfl, HQ5.out.1⟩
   ·have HX := Lib.hid (HRES.out true true false HA.out (decide_eq_true h3) (decide_eq_false h4))
    have e4 : (vb == 0) = false := by simpa using h4
    clear h3 h4
    go_wp2
    go_ret
    rw [HX.out]
    exact ⟨rfl, HQ5.out.1⟩
  ·have HX := Lib.hid (HRES.out true false _ HA.out (decide_eq_false h3) rfl)
   have e3 : (va == 0) = false := by simpa using h3
   clear h3
   go_wp2
   go_ret
   rw [HX.out]
   exact ⟨rfl, HQ5.out.1⟩
end Go.Proofs.YtaedlfiafnbceaaGreat

namespace Go.Proofs.YtaedlfiafnbceaaGreat
open Go.RowKit

theorem plc_pos {α : Type} [DecidableEq α] {l : List α} {a : α} {n : Int} (h : Plc l a n) (ha : a ∈ l) : n = (posL l a : Nat) := by
 rcases h with ⟨rfl, h⟩ | ⟨i, rfl, h, hk⟩
 ·exact absurd ha h
 ·rw [posL_of h hk]
theorem posL_lt {α : Type} [DecidableEq α] {l : List α} {a : α} (ha : a ∈ l) : posL l a < l.length := by
 have h := (posL_at ha).1
 rcases Nat.lt_or_ge (posL l a) l.length with h1 | h1
 ·exact h1
 ·rw [List.getElem?_eq_none h1] at h; cases h
theorem mem_behind {r : List (Int × Int)} {a b : Int × Int} (ha : a ∈ r) (hb : b ∈ r) (hne : a ≠ b) : b ∈ behind r a := by
 have hl := posL_lt ha
 have e := (posL_at ha).1
 have hd : r = r.take (posL r a) ++ a :: r.drop (posL r a + 1) := by
  have h1 : r.drop (posL r a) = r[posL r a] :: r.drop (posL r a + 1) := List.drop_eq_getElem_cons hl
  rw [List.getElem?_eq_getElem hl] at e
  rw [Option.some.inj e] at h1
  rw [← h1, List.take_append_drop]
 unfold behind
 rw [List.mem_append]
 rw [hd] at hb
 rcases List.mem_append.1 hb with h | h
 ·exact .inr h
 ·rcases List.mem_cons.1 h with h | h
  ·exact absurd h.symm hne
  ·exact .inl h
theorem behind_len {r : List (Int × Int)} {a : Int × Int} (ha : a ∈ r) : (behind r a).length = r.length - 1 := by
 have hl := posL_lt ha
 unfold behind
 rw [List.length_append, List.length_drop, List.length_take]; omega
theorem arc_len (r : List (Int × Int)) (a b : Int × Int) : (arc r a b).length ≤ r.length := by
 unfold arc behind
 rw [List.length_take, List.length_append, List.length_drop, List.length_take]; omega
theorem indexP_pos (ps : List (Int × Int)) (A : Option Addr) (cap : Nat) (p : Int × Int) (hp : p ∈ ps) (hn : ps.length ≤ 1000000) (w : World) (hr : Pts w w.heap.size A ps) :
  Calls Tryz.prog 73 #[.slice A ps.length cap, .agg #[.int .i64 p.1, .int .i64 p.2]] w fun e' w' => e' = .returned (.int .i64 (posL ps p : Nat)) ∧ Below w.heap.size w w' :=
 (indexP_any ps A cap p hn w hr).mono fun e w' ⟨n, h1, h2, h3⟩ => ⟨by rw [h1, plc_pos h2 hp], h3⟩
set_option maxRecDepth 100000 in
set_option maxHeartbeats 2000000 in
theorem closed_any (path ps : List (Int × Int)) (A B : Option Addr) (ca cb : Nat) (hF : pF path ∈ ps) (hL : pL path ∈ ps) (hne : pF path ≠ pL path) (h1 : 1 ≤ path.length) (hn : path.length ≤ 1000) (hn2 : ps.length ≤ 1000) (hnA : NilOk A ca) (hcB : ps.length ≤ cb) (w : World) (hr : Pts w w.heap.size A path) (hq : Pts w w.heap.size B ps) :
  Calls Tryz.prog 57 #[.slice A path.length ca, .slice B ps.length cb] w fun e w' => ∃ v, e = .returned v ∧ Row w v (nmL (closedL path ps)) w' := by
 obtain ⟨a, ha⟩ : ∃ a, pF path = a := ⟨_, rfl⟩
 obtain ⟨b, hb⟩ : ∃ b, pL path = b := ⟨_, rfl⟩
 obtain ⟨ad, hB, -, -, -⟩ := hq.at (Below.refl _ w) (posL_lt hF)
 subst hB
 have HE := Lib.hid (fun W (h : Below w.heap.size w W) => ends_any path A ca a b ha hb h1 (by omega) W (hr.on h))
 have HPA := Lib.hid (fun K W (h : Hold w K W) => hr.on h.1)
 have HPB := Lib.hid (fun K W (h : Hold w K W) => hq.on h.1)
 have HI1 := Lib.hid (fun K W (h : Hold w K W) => indexP_pos ps (some ad) cb b (hb ▸ hL) (by omega) W (hq.on h.1))
 have HI2 := Lib.hid (fun A' c' W (hp : Pts W W.heap.size A' (behind ps b)) => indexP_pos (behind ps b) A' c' a (mem_behind (hb ▸ hL) (ha ▸ hF) (fun e => hne (by rw [ha, hb, e]))) (by rw [behind_len (hb ▸ hL)]; omega) W hp)
 have hj : posL ps b < ps.length := posL_lt (hb ▸ hL)
 have hm : posL (behind ps b) a < (behind ps b).length := posL_lt (mem_behind (hb ▸ hL) (ha ▸ hF) (fun e => hne (by rw [ha, hb, e])))
 have hbl := behind_len (hb ▸ hL : b ∈ ps)
 have HCLO : Hid (closedL path ps = path ++ (behind ps b).take (posL (behind ps b) a)) := by unfold Hid closedL arc; rw [ha, hb]
 have hbe : behind ps b = ps.drop (posL ps b + 1) ++ ps.take (posL ps b) := rfl
 have HBE := Lib.hid hbe
 clear hr hq ha hb hne hF hL hbe
 generalize posL ps b = j at *
 generalize hqs : behind ps b = qs at *
 generalize posL qs a = m at *
 clear hqs
 have HN1 : Hid (1 ≤ path.length ∧ path.length ≤ 1000 ∧ ps.length ≤ 1000 ∧ qs.length = ps.length - 1 ∧ m < qs.length ∧ j < ps.length) := ⟨h1, hn, hn2, hbl, hm, hj⟩
 have HNA := Lib.hid hnA
 clear hnA
 have HB0 := Below.refl w.heap.size w
 go_enter Tryz.func57, Tryz.ntmps57
 go_upto_region 2 with (go_at_call 55; go_must (refine (HE.out _ HB0).mono ?_; rintro e' W2 ⟨rfl, hB⟩; have HB2 := Lib.hid hB; clear hB))
 have HQ := (((Hold.refl w).on HB2.out).new #[.int .i64 a.1, .int .i64 a.2] 35).new' #[.int .i64 b.1, .int .i64 b.2] 35 (n := W2.heap.size + 1) (by simp)
 clear HE HB0 HB2
 generalize (World.alloc _ _) = W3 at HQ ⊢
 generalize W2.heap.size + 1 = g1 at HQ ⊢
 generalize W2.heap.size = g0 at HQ ⊢
 have HQ3 := Lib.hid HQ
 obtain ⟨⟨c0, c1, -⟩, c2, c3, -⟩ := HQ.pt2
 clear HQ
 go_upto_region 3 with (go_at_call 73; go_must (refine (HI1.out _ _ HQ3.out).mono ?_; rintro e' W4 ⟨rfl, hB⟩; have HQ4 := Lib.hid (HQ3.out.on hB); clear hB))
 clear c0 c1 c2 c3
 obtain ⟨kn, hkn⟩ : ∃ n, j + 1 = n := ⟨_, rfl⟩
 have b6 : IntKind.i64.wrap ((j : Int) + 1) = (kn : Int) := by rw [IntKind.wrap_i64]; omega
 have k2 : (0 : Int) ≤ (kn : Int) := by omega
 have k3 : (kn : Int) ≤ (ps.length : Int) := by omega
 have k4 : (kn : Int) ≤ (cb : Int) := by omega
 have k5 : (ps.length : Int) ≤ (cb : Int) := by omega
 have k6 : kn ≤ ps.length := by omega
 have k7 : kn ≤ cb := by omega
 have k8 : (0 : Int) ≤ (j : Int) := by omega
 have k9 : (j : Int) ≤ (ps.length : Int) := by omega
 have k10 : (j : Int) ≤ (cb : Int) := by omega
 have k11 : j ≤ ps.length := by omega
 have k12 : j ≤ cb := by omega
 have k13 : ¬ cb = 0 := by omega
 have k14 : j ≤ kn := by omega
 have k15 : (j : Int) ≤ (kn : Int) := by omega
 have k16 : ¬ kn = 0 := by omega
 have hl1 : (ps.take j).length = j := by rw [List.length_take]; omega
 have hl3 : (ps.drop kn).length = ps.length - kn := List.length_drop
 rw [hkn] at HBE
 clear hj hm hbl hn hn2 h1
 have hH := HQ4.out
 by_cases hc : cb = kn
 ·refine wp_region_held_drew (S := fun W => W.cell? ⟨g0, 0, none⟩ = some (.int .i64 a.1) ∧ W.cell? ⟨g0, 1, none⟩ = some (.int .i64 a.2)) (by kernel_rfl) ?_ (fun hHeld => ?_)
  ·exact hH.drew.pt (.tail _ (.head _))
  refine tZ 0 ?_; refine tZ 1 ?_; refine tZ 2 ?_; refine tZ 3 ?_; refine tZ 4 ?_; refine tZ 5 ?_; refine tZ 6 ?_
  have h7 := (hH.new #[.slice (some ad) (ps.length - kn) 0, .slice (some ad) j kn] 23).drew
  refine wpAnyH_ready (rs := [7]) (by decide +kernel) (by simp) ?_
  refine AllReadyH.cons rfl (fun K hK => ?_) AllReadyH.nil
  (try simp only [jA, jB, jC])
  go_simp
  refine hK.out _ _ ?_ (fun hHeld => ?_)
  focus ((try dsimp only); exact h7.pt (.tail _ (.tail _ (.head _))); done)
  clear hK K
  (try simp only [Act.put, jA, jB, jC, jD, jE, jF])
  have hb7 := (h7.2.1 _ (.head _)).1
  have hr7 := HPB.out _ _ h7
  have HCT := Lib.hid (concat_two (ps.drop kn) (ps.take j) (some ad) (some ad) _ _ _ 2 (fun e => by cases e) (fun e => by cases e) (by have := HN1.out; rw [hl1, hl3]; omega) (by have := HN1.out; rw [hl1, hl3]; omega) _ (by rw [hl1, hl3]; exact hb7) (Pts.dropAll hr7 (fun h => absurd h (by omega))) (Pts.take j hr7))
  rw [← HBE.out] at HCT
  refine wpAnyH_ready (rs := [8]) (by decide +kernel) (by simp) ?_
  refine AllReadyH.cons rfl (fun K hK => ?_) AllReadyH.nil
  (try simp only [jA, jB, jC])
  go_simp
  (go_at_call 74; refine HCT.out.mono ?_; rintro e' W9 ⟨v, rfl, HV⟩; have h9 := h7.on HV.1)
  refine hK.out _ _ ?_ (fun hHeld => ?_)
  focus ((try dsimp only); exact h9.pt (.tail _ (.tail _ (.head _))); done)
  clear hK K
  (try simp only [Act.put, jA, jB, jC, jD, jE, jF])
  refine tZ 9 ?_
  refine wpAnyH_done (by decide +kernel) ?_ _
  obtain ⟨A9, c9, rfl, hp9, hn9, hc9⟩ := HV.full
  obtain ⟨ad9, hA9, -, -, -⟩ := hp9.at (Below.refl _ _) HN1.out.2.2.2.2.1
  subst hA9
  have HP9 := Lib.hid hp9
  have HQ9 := Lib.hid h9
  obtain ⟨c0, c1⟩ := h9.pt (.tail _ (.tail _ (.head _)))
  have m0 : (0 : Int) ≤ (m : Int) := by omega
  have m1 : (m : Int) ≤ (qs.length : Int) := by have := HN1.out; omega
  have m2 : (m : Int) ≤ (c9 : Int) := by have := HN1.out; omega
  have m3 : m ≤ qs.length := by have := HN1.out; omega
  have m4 : m ≤ c9 := by have := HN1.out; omega
  have m5 : ¬ c9 = 0 := by have := HN1.out; omega
  have m6 : (qs.length : Int) ≤ (c9 : Int) := by omega
  have hlm : (qs.take m).length = m := by rw [List.length_take]; omega
  have HLM := Lib.hid hlm
  clear h9 hp9 hn9 hc9 HV h7 HCT k2 k3 k4 k5 k6 k7 k8 k9 k10 k11 k12 k13 k14 k15 k16 hb7 hr7 hl1 hl3 b6 hH hlm HPB HI1
  go_wp2_with (first
   |(go_at_call 73; go_must (refine (HI2.out _ _ _ HP9.out).mono ?_; rintro e' W10 ⟨rfl, hB⟩; have HQ10 := Lib.hid (HQ9.out.on hB); have HP10 := Lib.hid (HP9.out.on hB); clear hB))
   |(go_at_call 74; go_must (
     have h11 := HQ10.out.new #[.slice A path.length ca, .slice (some ad9) m c9] 23
     have HCT := concat_two path (qs.take m) A (some ad9) ca c9 _ 2 HNA.out (fun e => by cases e) (by have := HN1.out; omega) (by have := HN1.out; rw [HLM.out]; omega) _ (by rw [HLM.out]; exact (h11.2.1 _ (.head _)).1) (HPA.out _ _ h11) (Pts.take m (HP10.out.on ((Below.refl _ W10).alloc (Nat.le_refl _) _)))
     rw [← HCLO.out] at HCT
     refine HCT.mono ?_
     rintro e' W12 ⟨v12, rfl, hv12⟩
     have HQ12 := Lib.hid (h11.on hv12.1)
     obtain ⟨A12, c12, rfl, hp12, hn12, hc12⟩ := hv12.full
     have HP12 := Lib.hid hp12
     have HC12 := Lib.hid hc12
     clear h11 HCT hv12 hp12 hn12 hc12))
   |(go_at_call 75; go_must (refine (Norm_any (closedL path ps) A12 c12 (by have h1 := HN1.out; have h2 := HCLO.out; rw [h2, List.length_append, HLM.out]; unfold maxLen; omega) HC12.out _ HP12.out).mono ?_; rintro e' W13 ⟨v13, rfl, hv13⟩; have HV13 := Lib.hid (hv13.base HQ12.out.1); clear hv13)))
  go_ret
  exact ⟨_, rfl, HV13.out⟩
 ·have k17 : kn < cb := by omega
  have k18 : ¬ cb = kn := by omega
  refine wp_region_held_drew (S := fun W => W.cell? ⟨g0, 0, none⟩ = some (.int .i64 a.1) ∧ W.cell? ⟨g0, 1, none⟩ = some (.int .i64 a.2)) (by kernel_rfl) ?_ (fun hHeld => ?_)
  ·exact hH.drew.pt (.tail _ (.head _))
  refine tZ 0 ?_; refine tZ 1 ?_; refine tZ 2 ?_; refine tZ 3 ?_; refine tZ 4 ?_; refine tZ 5 ?_; refine tZ 6 ?_
  have h7 := (hH.new #[.slice (some (ad.add (kn * 2))) (ps.length - kn) (cb - kn), .slice (some ad) j cb] 23).drew
  refine wpAnyH_ready (rs := [7]) (by decide +kernel) (by simp) ?_
  refine AllReadyH.cons rfl (fun K hK => ?_) AllReadyH.nil
  (try simp only [jA, jB, jC])
  go_simp
  refine hK.out _ _ ?_ (fun hHeld => ?_)
  focus ((try dsimp only); exact h7.pt (.tail _ (.tail _ (.head _))); done)
  clear hK K
  (try simp only [Act.put, jA, jB, jC, jD, jE, jF])
  have hb7 := (h7.2.1 _ (.head _)).1
  have hr7 := HPB.out _ _ h7
  have HCT := Lib.hid (concat_two (ps.drop kn) (ps.take j) (some (ad.add (kn * 2))) (some ad) _ _ _ 2 (fun e => by cases e) (fun e => by cases e) (by have := HN1.out; rw [hl1, hl3]; omega) (by have := HN1.out; rw [hl1, hl3]; omega) _ (by rw [hl1, hl3]; exact hb7) (Pts.dropAll hr7 (fun _ => rfl)) (Pts.take j hr7))
  rw [← HBE.out] at HCT
  refine wpAnyH_ready (rs := [8]) (by decide +kernel) (by simp) ?_
  refine AllReadyH.cons rfl (fun K hK => ?_) AllReadyH.nil
  (try simp only [jA, jB, jC])
  go_simp
  (go_at_call 74; refine HCT.out.mono ?_; rintro e' W9 ⟨v, rfl, HV⟩; have h9 := h7.on HV.1)
  refine hK.out _ _ ?_ (fun hHeld => ?_)
  focus ((try dsimp only); exact h9.pt (.tail _ (.tail _ (.head _))); done)
  clear hK K
  (try simp only [Act.put, jA, jB, jC, jD, jE, jF])
  refine tZ 9 ?_
  refine wpAnyH_done (by decide +kernel) ?_ _
  obtain ⟨A9, c9, rfl, hp9, hn9, hc9⟩ := HV.full
  obtain ⟨ad9, hA9, -, -, -⟩ := hp9.at (Below.refl _ _) HN1.out.2.2.2.2.1
  subst hA9
  have HP9 := Lib.hid hp9
  have HQ9 := Lib.hid h9
  obtain ⟨c0, c1⟩ := h9.pt (.tail _ (.tail _ (.head _)))
  have m0 : (0 : Int) ≤ (m : Int) := by omega
  have m1 : (m : Int) ≤ (qs.length : Int) := by have := HN1.out; omega
  have m2 : (m : Int) ≤ (c9 : Int) := by have := HN1.out; omega
  have m3 : m ≤ qs.length := by have := HN1.out; omega
  have m4 : m ≤ c9 := by have := HN1.out; omega
  have m5 : ¬ c9 = 0 := by have := HN1.out; omega
  have m6 : (qs.length : Int) ≤ (c9 : Int) := by omega
  have hlm : (qs.take m).length = m := by rw [List.length_take]; omega
  have HLM := Lib.hid hlm
  clear h9 hp9 hn9 hc9 HV h7 HCT k2 k3 k4 k5 k6 k7 k8 k9 k10 k11 k12 k13 k14 k15 k16 hb7 hr7 hl1 hl3 b6 hH hlm HPB HI1
  go_wp2_with (first
   |(go_at_call 73; go_must (refine (HI2.out _ _ _ HP9.out).mono ?_; rintro e' W10 ⟨rfl, hB⟩; have HQ10 := Lib.hid (HQ9.out.on hB); have HP10 := Lib.hid (HP9.out.on hB); clear hB))
   |(go_at_call 74; go_must (
     have h11 := HQ10.out.new #[.slice A path.length ca, .slice (some ad9) m c9] 23
     have HCT := concat_two path (qs.take m) A (some ad9) ca c9 _ 2 HNA.out (fun e => by cases e) (by have := HN1.out; omega) (by have := HN1.out; rw [HLM.out]; omega) _ (by rw [HLM.out]; exact (h11.2.1 _ (.head _)).1) (HPA.out _ _ h11) (Pts.take m (HP10.out.on ((Below.refl _ W10).alloc (Nat.le_refl _) _)))
     rw [← HCLO.out] at HCT
     refine HCT.mono ?_
     rintro e' W12 ⟨v12, rfl, hv12⟩
     have HQ12 := Lib.hid (h11.on hv12.1)
     obtain ⟨A12, c12, rfl, hp12, hn12, hc12⟩ := hv12.full
     have HP12 := Lib.hid hp12
     have HC12 := Lib.hid hc12
     clear h11 HCT hv12 hp12 hn12 hc12))
   |(go_at_call 75; go_must (refine (Norm_any (closedL path ps) A12 c12 (by have h1 := HN1.out; have h2 := HCLO.out; rw [h2, List.length_append, HLM.out]; unfold maxLen; omega) HC12.out _ HP12.out).mono ?_; rintro e' W13 ⟨v13, rfl, hv13⟩; have HV13 := Lib.hid (hv13.base HQ12.out.1); clear hv13)))
  go_ret
  exact ⟨_, rfl, HV13.out⟩
end Go.Proofs.YtaedlfiafnbceaaGreat
