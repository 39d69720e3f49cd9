/- The functions by which a query's parcels are sorted out. -/
import Derived.Test.YtoabooljgojoiabGreatQBord
import Derived.Test.YtoabooljgojoiabGreatSide
import Derived.Test.YtoabooljgojoiabGreatWinE
import Derived.Sort.Defs
import Derived.Lib.SlKept
import Derived.Lib.SliceRun
namespace Go.Proofs.YtoabooljgojoiabGreat
open Go.RowKit
theorem lt_of_cell {w : World} {g i : Nat} {v : Value} (h : w.cell? ⟨g, i, none⟩ = some v) : g < w.heap.size := by
 by_cases hg : g < w.heap.size
 ·exact hg
 ·have e : w.heap[g]? = none := Array.getElem?_eq_none (Nat.le_of_not_lt hg)
  unfold World.cell? at h
  simp [e] at h
set_option maxRecDepth 100000 in
set_option maxHeartbeats 1000000 in
theorem locF_any (ps : List (Int × Int)) (A : Option Addr) (cap : Nat) (p : Int × Int) (q : Nat) (hn : ps.length ≤ maxLen) (w : World) (hr : Pts w w.heap.size A ps) (h0 : w.cell? ⟨q, 0, none⟩ = some (.int .i64 p.1)) (h1 : w.cell? ⟨q, 1, none⟩ = some (.int .i64 p.2)) :
  Calls Tryz.prog 41 #[.slice A ps.length cap, .pointer (some ⟨q, 0, none⟩)] w fun e w' => e = .returned (.bool (decide (0 ≤ sdV ps p))) ∧ Below w.heap.size w w' := by
 have HS := Lib.hid (Side_any ps A cap p hn w hr)
 clear hr
 go_enter Tryz.func41, Tryz.ntmps41
 go_wp2_with fail
 go_at_call 38
 refine HS.out.mono ?_
 rintro e w1 ⟨rfl, hB⟩
 have HB := Lib.hid hB
 clear hB h0 h1
 go_wp2_with fail
 refine bodyPost_ret (v := .bool (decide (0 ≤ sdV ps p))) ?_ rfl ⟨rfl, HB.out⟩
 simp [results, Tryz.results41, go_sem]
set_option maxRecDepth 100000 in
set_option maxHeartbeats 1000000 in
theorem winF_any (ps : List (Int × Int)) (A : Option Addr) (cap : Nat) (L H : Int × Int) (q : Nat) (hn : ps.length ≤ maxLen) (w : World) (hr : Pts w w.heap.size A ps) (h0 : w.cell? ⟨q, 0, none⟩ = some (.int .i64 L.1)) (h1 : w.cell? ⟨q, 1, none⟩ = some (.int .i64 L.2)) (h2 : w.cell? ⟨q, 2, none⟩ = some (.int .i64 H.1)) (h3 : w.cell? ⟨q, 3, none⟩ = some (.int .i64 H.2)) :
  Calls Tryz.prog 16 #[.slice A ps.length cap, .pointer (some ⟨q, 0, none⟩)] w fun e w' => e = .returned (.bool (meV L H ps)) ∧ Below w.heap.size w w' := by
 have HS := Lib.hid (Meets_any L H ps A cap hn w hr)
 clear hr
 go_enter Tryz.func16, Tryz.ntmps16
 go_wp2_with fail
 go_at_call 17
 refine HS.out.mono ?_
 rintro e w1 ⟨rfl, hB⟩
 have HB := Lib.hid hB
 clear hB h0 h1 h2 h3
 go_wp2_with fail
 refine bodyPost_ret (v := .bool (meV L H ps)) ?_ rfl ⟨rfl, HB.out⟩
 simp [results, Tryz.results16, go_sem]
set_option maxRecDepth 100000 in
set_option maxHeartbeats 1000000 in
theorem fndL_any (l' : List PV) (b m1 q1 q2 : Nat) (qp : Value) (id : Int) (x : PV) (p : Bool) (hid : In64 id) (hx : ∀ r, Got (ringL l') noRing id r → r.1 = x) (w : World) (hm : MapIs w m1 iv rvV In64 (ringL l'))
  (c1 : w.cell? ⟨q1, 0, none⟩ = some (.func (.func 41) #[] #[qp])) (c2 : w.cell? ⟨q2, 0, none⟩ = some (.pointer (some ⟨b, 0, none⟩))) (c3 : w.cell? ⟨b, 0, none⟩ = some (.map (some m1)))
  (hc : ∀ W, Below w.heap.size w W → Calls Tryz.prog 41 #[rvV x, qp] W fun e W' => e = .returned (.bool p) ∧ Below W.heap.size W W') :
  Calls Tryz.prog 36 #[.int .i64 id, .pointer (some ⟨q1, 0, none⟩), .pointer (some ⟨q2, 0, none⟩)] w fun e w' => e = .returned (.bool (!p)) ∧ Below w.heap.size w w' := by
 have HS := Lib.hid (Hold.refl w)
 have HM := Lib.hid (fun W (h : Below w.heap.size w W) => hm.on h hm.lt)
 have HX := Lib.hid hx
 have HI := Lib.hid hid
 have HC := Lib.hid hc
 have hnot : ∀ (x : Bool) (w : World), (Op.unary .not (.bool x)).run Tryz.prog w = .ok (.bool (!x)) w := fun _ _ => rfl
 have HRC := Lib.hid (show w.cell? ⟨q1, 0, none⟩ = some (.func (.func 41) #[] #[qp]) ∧ w.cell? ⟨q2, 0, none⟩ = some (.pointer (some ⟨b, 0, none⟩)) ∧ w.cell? ⟨b, 0, none⟩ = some (.map (some m1)) from ⟨c1, c2, c3⟩)
 have l1 := lt_of_cell c1
 have l2 := lt_of_cell c2
 have l3 := lt_of_cell c3
 have HRD := Lib.hid (fun W (h : Below w.heap.size w W) => show W.cell? ⟨q1, 0, none⟩ = some (.func (.func 41) #[] #[qp]) ∧ W.cell? ⟨q2, 0, none⟩ = some (.pointer (some ⟨b, 0, none⟩)) ∧ W.cell? ⟨b, 0, none⟩ = some (.map (some m1)) from ⟨(h.cell l1).trans c1, (h.cell l2).trans c2, (h.cell l3).trans c3⟩)
 clear hm hx hid hc l1 l2 l3 c1 c2 c3 HRC
 go_enter Tryz.func36, Tryz.ntmps36
 go_upto_region 1 with (fail)
 have HB0 := Lib.hid (HS.out.drew.1)
 refine wp_region_held_drew (S := fun W => W.cell? ⟨q1, 0, none⟩ = some (.func (.func 41) #[] #[qp]) ∧ W.cell? ⟨q2, 0, none⟩ = some (.pointer (some ⟨b, 0, none⟩)) ∧ W.cell? ⟨b, 0, none⟩ = some (.map (some m1))) (by kernel_rfl) ?_ (fun hHeld => ?_)
 ·(try dsimp only)
  exact HRD.out _ HB0.out
 refine tZ 0 ?_; refine tZ 1 ?_; refine tZ 2 ?_; refine tZ 3 ?_; refine tZ 4 ?_; refine tZ 5 ?_
 refine wpAnyH_ready (rs := [6]) (by decide +kernel) (by simp) ?_
 refine AllReadyH.cons rfl (fun K hK => ?_) AllReadyH.nil
 refine step_lookG (z := noRing) (k := id) 59 23 keyJ Tryz.underlying59 zeroR (HM.out _ HB0.out) HI.out (by rfl) _ _ (by rfl) (by rfl) (by rfl) ?_; intro r hgot; have HGT := Lib.hid (HX.out _ hgot); rw [HGT.out]; clear hgot
 refine hK.out _ _ ?_ (fun hHeld => ?_)
 focus ((try dsimp only); exact hHeld; done)
 clear hK K
 (try simp only [Act.put, jA, jB, jC, jD, jE, jF])
 refine wpAnyH_ready (rs := [7]) (by decide +kernel) (by simp) ?_
 refine AllReadyH.cons rfl (fun K hK => ?_) AllReadyH.nil
 (try simp only [jA, jB, jC])
 go_simp
 (go_at_call 41; (with_reducible refine (HC.out _ HB0.out).mono ?_); rintro e' w' ⟨rfl, hB⟩; have HB9 := Lib.hid (Below.trans HB0.out (hB.mono HB0.out.size)))
 refine hK.out _ _ ?_ (fun hHeld => ?_)
 focus ((try dsimp only); exact HRD.out _ HB9.out; done)
 clear hK K
 (try simp only [Act.put, jA, jB, jC, jD, jE, jF])
 refine tZ 8 ?_; refine tZ 9 ?_
 refine wpAnyH_done (by decide +kernel) ?_ _
 go_wp2_with fail
 refine bodyPost_ret (v := .bool (!p)) ?_ rfl ⟨rfl, HB9.out⟩
 simp [results, Tryz.results36, go_sem]
set_option maxRecDepth 100000 in
set_option maxHeartbeats 1000000 in
theorem fndW_any (l' : List PV) (b m1 q1 q2 : Nat) (qp : Value) (id : Int) (x : PV) (p : Bool) (hid : In64 id) (hx : ∀ r, Got (ringL l') noRing id r → r.1 = x) (w : World) (hm : MapIs w m1 iv rvV In64 (ringL l'))
  (c1 : w.cell? ⟨q1, 0, none⟩ = some (.func (.func 16) #[] #[qp])) (c2 : w.cell? ⟨q2, 0, none⟩ = some (.pointer (some ⟨b, 0, none⟩))) (c3 : w.cell? ⟨b, 0, none⟩ = some (.map (some m1)))
  (hc : ∀ W, Below w.heap.size w W → Calls Tryz.prog 16 #[rvV x, qp] W fun e W' => e = .returned (.bool p) ∧ Below W.heap.size W W') :
  Calls Tryz.prog 36 #[.int .i64 id, .pointer (some ⟨q1, 0, none⟩), .pointer (some ⟨q2, 0, none⟩)] w fun e w' => e = .returned (.bool (!p)) ∧ Below w.heap.size w w' := by
 have HS := Lib.hid (Hold.refl w)
 have HM := Lib.hid (fun W (h : Below w.heap.size w W) => hm.on h hm.lt)
 have HX := Lib.hid hx
 have HI := Lib.hid hid
 have HC := Lib.hid hc
 have hnot : ∀ (x : Bool) (w : World), (Op.unary .not (.bool x)).run Tryz.prog w = .ok (.bool (!x)) w := fun _ _ => rfl
 have HRC := Lib.hid (show w.cell? ⟨q1, 0, none⟩ = some (.func (.func 16) #[] #[qp]) ∧ w.cell? ⟨q2, 0, none⟩ = some (.pointer (some ⟨b, 0, none⟩)) ∧ w.cell? ⟨b, 0, none⟩ = some (.map (some m1)) from ⟨c1, c2, c3⟩)
 have l1 := lt_of_cell c1
 have l2 := lt_of_cell c2
 have l3 := lt_of_cell c3
 have HRD := Lib.hid (fun W (h : Below w.heap.size w W) => show W.cell? ⟨q1, 0, none⟩ = some (.func (.func 16) #[] #[qp]) ∧ W.cell? ⟨q2, 0, none⟩ = some (.pointer (some ⟨b, 0, none⟩)) ∧ W.cell? ⟨b, 0, none⟩ = some (.map (some m1)) from ⟨(h.cell l1).trans c1, (h.cell l2).trans c2, (h.cell l3).trans c3⟩)
 clear hm hx hid hc l1 l2 l3 c1 c2 c3 HRC
 go_enter Tryz.func36, Tryz.ntmps36
 go_upto_region 1 with (fail)
 have HB0 := Lib.hid (HS.out.drew.1)
 refine wp_region_held_drew (S := fun W => W.cell? ⟨q1, 0, none⟩ = some (.func (.func 16) #[] #[qp]) ∧ W.cell? ⟨q2, 0, none⟩ = some (.pointer (some ⟨b, 0, none⟩)) ∧ W.cell? ⟨b, 0, none⟩ = some (.map (some m1))) (by kernel_rfl) ?_ (fun hHeld => ?_)
 ·(try dsimp only)
  exact HRD.out _ HB0.out
 refine tZ 0 ?_; refine tZ 1 ?_; refine tZ 2 ?_; refine tZ 3 ?_; refine tZ 4 ?_; refine tZ 5 ?_
 refine wpAnyH_ready (rs := [6]) (by decide +kernel) (by simp) ?_
 refine AllReadyH.cons rfl (fun K hK => ?_) AllReadyH.nil
 refine step_lookG (z := noRing) (k := id) 59 23 keyJ Tryz.underlying59 zeroR (HM.out _ HB0.out) HI.out (by rfl) _ _ (by rfl) (by rfl) (by rfl) ?_; intro r hgot; have HGT := Lib.hid (HX.out _ hgot); rw [HGT.out]; clear hgot
 refine hK.out _ _ ?_ (fun hHeld => ?_)
 focus ((try dsimp only); exact hHeld; done)
 clear hK K
 (try simp only [Act.put, jA, jB, jC, jD, jE, jF])
 refine wpAnyH_ready (rs := [7]) (by decide +kernel) (by simp) ?_
 refine AllReadyH.cons rfl (fun K hK => ?_) AllReadyH.nil
 (try simp only [jA, jB, jC])
 go_simp
 (go_at_call 16; (with_reducible refine (HC.out _ HB0.out).mono ?_); rintro e' w' ⟨rfl, hB⟩; have HB9 := Lib.hid (Below.trans HB0.out (hB.mono HB0.out.size)))
 refine hK.out _ _ ?_ (fun hHeld => ?_)
 focus ((try dsimp only); exact HRD.out _ HB9.out; done)
 clear hK K
 (try simp only [Act.put, jA, jB, jC, jD, jE, jF])
 refine tZ 8 ?_; refine tZ 9 ?_
 refine wpAnyH_done (by decide +kernel) ?_ _
 go_wp2_with fail
 refine bodyPost_ret (v := .bool (!p)) ?_ rfl ⟨rfl, HB9.out⟩
 simp [results, Tryz.results36, go_sem]
end Go.Proofs.YtoabooljgojoiabGreat

namespace Go.Proofs.YtoabooljgojoiabGreat
open Go.RowKit Go.Sort

def RowZ (w0 W : World) (g off : Nat) (d : Array Int) : Prop := Below w0.heap.size w0 W ∧ w0.heap.size ≤ g ∧ g < W.heap.size ∧ Holds (Value.int .i64) W g off d
section
variable {w0 W W' : World} {g off : Nat} {d : Array Int}
theorem RowZ.on (h : RowZ w0 W g off d) (hb : Below W.heap.size W W') : RowZ w0 W' g off d :=
 ⟨h.1.trans (hb.mono h.1.size), h.2.1, Nat.lt_of_lt_of_le h.2.2.1 hb.size, fun j hj => ⟨(hb.cell (p := ⟨g, off + j, none⟩) h.2.2.1).trans (h.2.2.2 j hj).1, (hb.frozen (p := ⟨g, off + j, none⟩) h.2.2.1).trans (h.2.2.2 j hj).2⟩⟩
theorem RowZ.set (h : RowZ w0 W g off d) {i : Nat} (hi : i < d.size) (u : Int) : RowZ w0 (W.setCell ⟨g, off + i, none⟩ (.int .i64 u)) g off (d.setIfInBounds i u) := by
 refine ⟨h.1.setCell (p := ⟨g, off + i, none⟩) h.2.1 _, h.2.1, by rw [World.size_setCell]; exact h.2.2.1, fun j hj => ⟨?_, ?_⟩⟩
 ·have hj' : j < d.size := by simpa using hj
  by_cases e : j = i
  ·subst e
   rw [getElem!_set_same d j u hi, World.cell?_setCell_same _ _ _ (h.2.2.2 j hi).1]
  ·rw [getElem!_set_other d i j u e, World.cell?_setCell_other _ _ _ _ (fun h => e (by have := (Addr.mk.inj h).2.1; omega))]
   exact (h.2.2.2 j hj').1
 ·have hj' : j < d.size := by simpa using hj
  rw [World.frozen?_setCell]
  exact (h.2.2.2 j hj').2
end
set_option maxRecDepth 100000 in
set_option maxHeartbeats 2000000 in
theorem idxZ_any (P : Int → Prop) (w1 W : World) (q1 q2 : Value) (zs : List Int) (g off cap : Nat) (hz : RowZ w1 W g off zs.toArray) (hin : ∀ z ∈ zs, In64 z) (hn : zs.length ≤ maxLen)
  (hd : ∀ W', Below w1.heap.size w1 W' → ∀ id, In64 id → Calls Tryz.prog 36 #[.int .i64 id, q1, q2] W' fun e W'' => ∃ b, e = .returned (.bool b) ∧ (b = true ↔ P id) ∧ Below W'.heap.size W' W'') :
  Calls Tryz.prog 61 #[.slice (some ⟨g, off, none⟩) zs.length cap, .func (.func 36) #[] #[q1, q2]] W fun e W' => ∃ i : Int, e = .returned (.int .i64 i) ∧ Below W.heap.size W W' ∧ ((i = -1 ∧ ∀ j, j < zs.length → ¬ P zs[j]!) ∨ ∃ k : Nat, i = k ∧ k < zs.length ∧ P zs[k]! ∧ ∀ j, j < k → ¬ P zs[j]!) := by
 have HS : Hid (zs.length ≤ 9223372036854775807) := by unfold Hid; unfold maxLen at hn; omega
 have HZ := Lib.hid hz
 have HIN := Lib.hid hin
 have HD := Lib.hid hd
 clear hz hin hd hn
 go_enter Tryz.func61, Tryz.ntmps61
 go_wp2_with fail
 go_loopg [8] zs.length (fun gg i wr => ∃ k : Nat, k ≤ zs.length ∧ gg = zs.length - k ∧ i = .int .i64 k ∧ (∀ j, j < k → ¬ P zs[j]!) ∧ Below W.heap.size W wr)
 case atStart => exact ⟨0, Nat.zero_le _, rfl, rfl, fun j hj => absurd hj (by omega), Below.refl _ _⟩
 case round =>
  obtain ⟨k, hk, hgk, rfl, hno, hB⟩ := hrel
  have HGK := Lib.hid hgk
  have HNO := Lib.hid hno
  have HB := Lib.hid hB
  clear hgk hno hB
  by_cases hlt : k < zs.length
  ·have b0 : (0 : Int) ≤ (k : Int) := by omega
   have b1 : (k : Int) < (zs.length : Int) := by omega
   have hws : IntKind.i64.wrap ((k : Int) + 1) = (k : Int) + 1 := by have := HS.out; rw [IntKind.wrap_i64]; omega
   have hz1 := HZ.out.on HB.out
   have d0 := (hz1.2.2.2 k (by simpa using hlt)).1
   have e1 : zs.toArray[k]! = zs[k]! := by simp
   rw [e1] at d0
   have HC := Lib.hid (HD.out wr hz1.1 zs[k]! (HIN.out _ (by rw [getElem!_pos zs k hlt]; exact List.getElem_mem hlt)))
   clear hz1 e1
   generalize hu : zs[k]! = u at *
   have HU := Lib.hid hu
   clear hu
   go_wp2_with (go_at_call 36; go_must (refine HC.out.mono ?_; rintro e' W3 ⟨bb, rfl, hb, hB3⟩; have HBB := Lib.hid hb; have HB3 := Lib.hid hB3; clear hb hB3; cases bb))
   ·go_roundg (zs.length - (k + 1))
    case measure => have := HGK.out; omega
    case rel =>
     refine ⟨k + 1, by omega, rfl, by go_num, fun j hj => ?_, HB.out.trans (HB3.out.mono HB.out.size)⟩
     by_cases e : j = k
     ·subst e; rw [HU.out]; exact fun h => Bool.noConfusion (HBB.out.2 h)
     ·exact HNO.out j (by omega)
   ·go_ret
    exact ⟨_, rfl, HB.out.trans (HB3.out.mono HB.out.size), .inr ⟨k, rfl, by omega, by rw [HU.out]; exact HBB.out.1 trivial, HNO.out⟩⟩
  ·obtain rfl : k = zs.length := by omega
   go_wp2
   go_ret
   exact ⟨_, rfl, HB.out, .inl ⟨rfl, HNO.out⟩⟩
end Go.Proofs.YtoabooljgojoiabGreat

namespace Go.Proofs.YtoabooljgojoiabGreat
open Go.RowKit Go.Sort Go.Lib

theorem below_setCells {B g : Nat} {a : World} (hg : B ≤ g) : ∀ (vs : List Value) (o : Nat) {w : World}, RowKit.Below B a w → RowKit.Below B a (w.setCells g o vs)
 |[], _, _, h => h
 |v :: r, o, _, h => below_setCells hg r (o + 1) (h.setCell (p := ⟨g, o, none⟩) hg v)
theorem size_setCellsZ {g : Nat} : ∀ (vs : List Value) (o : Nat) (w : World), (w.setCells g o vs).heap.size = w.heap.size
 |[], _, _ => rfl
 |_ :: r, o, _ => (size_setCellsZ r (o + 1) _).trans (World.size_setCell _ _ _)
set_option maxRecDepth 100000 in
set_option maxHeartbeats 4000000 in
theorem delZ_any (p : Int → Bool) (P : Int → Prop) (hP : ∀ z, p z = true ↔ P z) (w1 W : World) (q1 q2 : Value) (zs : List Int) (g off cap : Nat) (hz : RowZ w1 W g off zs.toArray) (hin : ∀ z ∈ zs, In64 z) (hn : zs.length ≤ maxLen) (hcap : zs.length ≤ cap)
  (hd : ∀ W', RowKit.Below w1.heap.size w1 W' → ∀ id, In64 id → Calls Tryz.prog 36 #[.int .i64 id, q1, q2] W' fun e W'' => ∃ b, e = .returned (.bool b) ∧ (b = true ↔ P id) ∧ RowKit.Below W'.heap.size W' W'') :
  Calls Tryz.prog 34 #[.slice (some ⟨g, off, none⟩) zs.length cap, .func (.func 36) #[] #[q1, q2]] W fun e W' => e = .returned (.slice (some ⟨g, off, none⟩) (zs.filter fun z => !p z).length cap) ∧ RowKit.Below w1.heap.size w1 W' ∧ g < W'.heap.size ∧ ∀ j, j < (zs.filter fun z => !p z).length → W'.cell? ⟨g, off + j, none⟩ = some (.int .i64 (zs.filter fun z => !p z)[j]!) := by
 have HI := Lib.hid (idxZ_any P w1 W q1 q2 zs g off cap hz hin hn hd)
 have HS : Hid (zs.length ≤ 9223372036854775807) := by unfold Hid; unfold maxLen at hn; omega
 have HZ := Lib.hid hz
 have HIN := Lib.hid hin
 have HD := Lib.hid hd
 have HP := Lib.hid hP
 have HCAP := Lib.hid hcap
 obtain ⟨kp, HK⟩ : ∃ kp : Nat → Bool, Hid (kp = fun j => !p zs.toArray[j]!) := ⟨_, rfl⟩
 have HFL : Hid ((zs.filter fun z => !p z) = keptUpTo kp zs.toArray zs.toArray.size) := by
  unfold Hid
  rw [HK.out]
  have := keptUpTo_filter (fun x => !p x) zs.toArray
  exact this.symm
 clear hz hin hd hn hP hcap
 go_enter Tryz.func34, Tryz.ntmps34
 go_upto_region 2 with (go_at_call 61; go_must (refine HI.out.mono ?_; rintro e' W2 ⟨i, rfl, hB, hi⟩; have HB := Lib.hid hB; have HX := Lib.hid hi; clear hB hi))
 have HZ2 := Lib.hid (HZ.out.on HB.out)
 clear HI
 by_cases hneg : i = -1
 ·subst hneg
  have HALL : Hid (∀ z ∈ zs, (!p z) = true) := fun z hz => by
   rcases HX.out with ⟨-, h⟩ | ⟨k, h, -, -⟩
   ·obtain ⟨j, hj, rfl⟩ := List.mem_iff_getElem.1 hz
    have := h j hj
    rw [getElem!_pos zs j hj, ← HP.out] at this
    simpa using this
   ·omega
  go_wp2
  go_ret
  rw [List.filter_eq_self.2 HALL.out]
  exact ⟨rfl, HZ2.out.1, HZ2.out.2.2.1, fun j hj => by
   have := (HZ2.out.2.2.2 j (by simpa using hj)).1
   simpa using this⟩
 ·obtain ⟨k0, rfl, hk0, HT, HNO⟩ : ∃ k : Nat, i = k ∧ k < zs.length ∧ Hid (P zs[k]!) ∧ Hid (∀ j, j < k → ¬ P zs[j]!) := by
   rcases HX.out with ⟨h, -⟩ | ⟨k, h1, h2, h3, h4⟩
   ·exact absurd h hneg
   ·exact ⟨k, h1, h2, h3, h4⟩
  have hne1 : ((k0 : Int) == -1) = false := beq_eq_false_iff_ne.2 hneg
  have HKEEP : Hid (∀ j, j < k0 → kp j = true) := fun j hj => by
   rw [HK.out]
   have := HNO.out j hj
   rw [← HP.out] at this
   simpa using this
  have HDROP : Hid (kp k0 = false) := by
   unfold Hid
   rw [HK.out]
   have := (HP.out _).2 HT.out
   simpa using this
  have HST := Lib.hid (KeptInv.start (d := zs.toArray) HKEEP.out HDROP.out)
  have hw0 : IntKind.i64.wrap ((k0 : Int) + 1) = (k0 : Int) + 1 := by have := HS.out; rw [IntKind.wrap_i64]; omega
  have HK0 := Lib.hid hk0
  clear hneg HX hk0 HT HNO HKEEP HDROP
  go_wp2_with fail
  go_loopg [5, 6, 7] zs.length (fun gg s5 s6 _ wr => ∃ (i j : Nat) (dk : Array Int), s5 = .int .i64 i ∧ s6 = .int .i64 j ∧ j ≤ zs.length ∧ zs.length - j ≤ gg ∧ RowZ w1 wr g off dk ∧ KeptInv kp zs.toArray j i dk)
  case atStart => exact ⟨k0, k0 + 1, zs.toArray, rfl, by go_num, by have := HK0.out; omega, Nat.sub_le _ _, HZ2.out, HST.out⟩
  case round =>
   obtain ⟨i, j, dk, rfl, rfl, hjd, hgg, hzr, hI⟩ := hrel
   have hij := hI.lt
   have hds := hI.size
   have hdz : dk.size = zs.length := by rw [hds]; simp
   have HJD := Lib.hid hjd
   have HGG := Lib.hid hgg
   have HIJ := Lib.hid hij
   have HR := Lib.hid hzr
   have HV := Lib.hid hI
   have HDZ := Lib.hid hdz
   clear hgg
   by_cases hlt : j < zs.length
   ·have b0 : (0 : Int) ≤ (j : Int) := by omega
    have b1 : (j : Int) < (zs.length : Int) := by omega
    have b2 : (0 : Int) ≤ (i : Int) := by omega
    have b3 : (i : Int) < (zs.length : Int) := by omega
    have hw1 : IntKind.i64.wrap ((j : Int) + 1) = (j : Int) + 1 := by have := HS.out; rw [IntKind.wrap_i64]; omega
    have hw2 : IntKind.i64.wrap ((i : Int) + 1) = (i : Int) + 1 := by have := HS.out; rw [IntKind.wrap_i64]; omega
    obtain ⟨cj, -⟩ := hzr.2.2.2 j (by omega)
    have e1 : dk[j]! = zs[j]! := by rw [hI.high j (by omega)]; simp
    rw [e1] at cj
    have HC := Lib.hid (HD.out wr hzr.1 zs[j]! (HIN.out _ (by rw [getElem!_pos zs j hlt]; exact List.getElem_mem hlt)))
    have HEJ : Hid (zs.toArray[j]! = zs[j]!) := by unfold Hid; simp
    clear hzr hI hij hds hdz e1 hjd
    generalize hu : zs[j]! = u at *
    go_wp2_with (go_at_call 36; go_must (refine HC.out.mono ?_; rintro e' W3 ⟨bb, rfl, hb, hB3⟩; have HBB := Lib.hid hb; have HB3 := Lib.hid hB3; have HR3 := Lib.hid (HR.out.on HB3.out); obtain ⟨ci, fi⟩ := HR3.out.2.2.2 i (by have := HDZ.out; omega); clear hb hB3; cases bb))
    ·go_roundg (zs.length - (j + 1))
     case measure => have := HGG.out; omega
     case rel =>
      refine ⟨i + 1, j + 1, dk.setIfInBounds i u, by go_num, by go_num, by omega, Nat.le_refl _, HR3.out.set (by have := HDZ.out; omega) u, ?_⟩
      have := HV.out.keep (by simpa using hlt) (by
       rw [HK.out]
       show (!p zs.toArray[j]!) = true
       rw [HEJ.out]
       cases hp : p u with
       |false => rfl
       |true => exact Bool.noConfusion (HBB.out.2 ((HP.out _).1 hp)))
      rwa [HEJ.out] at this
    ·go_roundg (zs.length - (j + 1))
     case measure => have := HGG.out; omega
     case rel =>
      refine ⟨i, j + 1, dk, rfl, by go_num, by omega, Nat.le_refl _, HR3.out, HV.out.skip ?_⟩
      rw [HK.out]
      show (!p zs.toArray[j]!) = false
      rw [HEJ.out, (HP.out u).2 (HBB.out.1 trivial)]
      rfl
   ·obtain rfl : j = zs.length := by omega
    have hltz : ¬ (zs.length : Int) < (zs.length : Int) := by omega
    have b2 : (0 : Int) ≤ (i : Int) := by omega
    have b3 : (i : Int) ≤ (zs.length : Int) := by omega
    have b4 : (zs.length : Int) ≤ (cap : Int) := by have := HCAP.out; omega
    have b5 : (i : Int) ≤ (cap : Int) := by omega
    have hcl : ∀ ty, (Builtin.clear_ #[36] ty #[.slice (some ⟨g, off + i, none⟩) (zs.length - i) (cap - i)]).run Tryz.prog wr = .ok (.tuple #[]) (wr.setCells g (off + i) (List.replicate (zs.length - i) (.int .i64 0))) :=
     fun ty => run_clear_slice wr _ _ ty _ Tryz.underlying36 zeroI rfl rfl g (off + i) _ _ (by omega) (fun t ht => by rw [show off + i + t = off + (i + t) by omega, (hzr.2.2.2 (i + t) (by omega)).1]; rfl) (fun t ht => by rw [show off + i + t = off + (i + t) by omega]; exact (hzr.2.2.2 (i + t) (by omega)).2)
    clear hzr hI hij hds hdz hjd
    go_wp2
    ·exfalso; have := HCAP.out; have := HIJ.out; omega
    go_ret
    have hI := HV.out
    have hl : (zs.filter fun z => !p z).length = i := by
     rw [HFL.out, List.size_toArray]; exact hI.len
    refine ⟨by rw [hl]; rfl, below_setCells HR.out.2.1 _ _ HR.out.1, by rw [size_setCellsZ]; exact HR.out.2.2.1, fun j hj => ?_⟩
    rw [hl] at hj
    rw [World.cell?_setCells_out _ _ _ _ _ (fun _ _ => .inl (by show off + j < off + i; omega)), (HR.out.2.2.2 j (by have := HDZ.out; omega)).1]
    have h1 := hI.low j hj
    rw [← List.size_toArray, ← HFL.out] at h1
    congr 2
    rw [getElem!_pos (zs.filter fun z => !p z) j (by rw [hl]; exact hj)]
    rw [List.getElem?_eq_getElem (by rw [hl]; exact hj)] at h1
    exact (Option.some.inj h1).symm
set_option maxHeartbeats 1000000 in
theorem delZ_nil (q1 q2 : Value) (w : World) :
  Calls Tryz.prog 34 #[.slice none 0 0, .func (.func 36) #[] #[q1, q2]] w fun e w' => e = .returned (.slice none 0 0) ∧ w' = w := by
 have HI : Hid (∀ W, Calls Tryz.prog 61 #[.slice none 0 0, .func (.func 36) #[] #[q1, q2]] W fun e w' => e = .returned (.int .i64 (-1)) ∧ w' = W) := fun W => by
  go_enter Tryz.func61, Tryz.ntmps61
  go_wp2_with fail
  refine wp_loop_rounds 1 ?_
  rw [rounds_succ]
  go_wp2
  go_ret
  exact ⟨rfl, rfl⟩
 go_enter Tryz.func34, Tryz.ntmps34
 go_wp2_with (go_at_call 61; go_must (refine (HI.out _).mono ?_; rintro e w' ⟨rfl, rfl⟩))
 go_ret
 exact ⟨rfl, rfl⟩
end Go.Proofs.YtoabooljgojoiabGreat
