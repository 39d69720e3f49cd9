/- The document's border: the edges of one ring that are another's, turned. -/
import Derived.Test.YtoabooljgojoiaaGreatQBord
namespace Go.Proofs.YtoabooljgojoiaaGreat
open Go.RowKit
def shL (a b : List (Int × Int)) : List ((Int × Int) × (Int × Int)) := (edg a).filter fun e => decide (bk e ∈ edg b)
theorem RowI.basedQ {α : Type} {T : TypeId} {enc : α → List Value} {n : Nat} {w w1 W : World} {v : Value} {l : List α} (h : RowI w1 T n enc v l W) (hb : Below w.heap.size w w1) : RowI w T n enc v l W :=
 ⟨Below.trans hb (h.1.mono hb.size), h.2.1, h.2.2.imp id (fun ⟨g, cap, cur, e, hg, r⟩ => ⟨g, cap, cur, e, Nat.le_trans hb.size hg, r⟩)⟩
set_option maxRecDepth 100000 in
set_option maxHeartbeats 2000000 in
theorem sharedL_any (a b : List (Int × Int)) (Aa Ab : Option Addr) (ca cb : Nat) (ha : a.length ≤ 1000000) (hb : b.length ≤ 1000000) (w : World) (hra : Pts w w.heap.size Aa a) (hrb : Pts w w.heap.size Ab b) :
  Calls Tryz.prog 18 #[.slice Aa a.length ca, .slice Ab b.length cb] w fun e w' => ∃ v, e = .returned v ∧ RowI w 61 4 encG v (shL a b) w' := by
 have HEA := Lib.hid (ref_edges a Aa ca ha w hra)
 have HEB := Lib.hid (fun W (h : Below w.heap.size w W) => ref_edges b Ab cb hb W (hrb.on h))
 have HLA : Hid ((edg a).length ≤ 1000000) := by unfold Hid; rw [edg_len]; exact ha
 have HLB : Hid ((edg b).length ≤ 1000000) := by unfold Hid; rw [edg_len]; exact hb
 unfold shL
 clear hra hrb ha hb
 generalize edg a = es at *
 generalize edg b = fs at *
 go_enter Tryz.func18, Tryz.ntmps18
 go_wp2_with fail
 go_at_call 42
 refine HEA.out.mono ?_
 rintro e' W1 ⟨v1, rfl, hv1⟩
 obtain ⟨A1, c1, rfl, hi1, -⟩ := hv1.items
 go_wp2_with fail
 go_at_call 42
 refine (HEB.out _ hv1.1).mono ?_
 rintro e' W2 ⟨v2, rfl, hv2⟩
 obtain ⟨A2, c2, rfl, hi2, -⟩ := hv2.items
 have HB2 := Lib.hid (Below.trans hv1.1 (hv2.1.mono hv1.1.size))
 have HI1 := Lib.hid (fun W (h : Below W2.heap.size W2 W) => (hi1.on hv2.1).on h)
 have HPL := Lib.hid (fun (e : (Int × Int) × (Int × Int)) W (h : Below W2.heap.size W2 W) => ref_place fs A2 c2 e HLB.out W (hi2.on h))
 have HR0 : RowI W2 61 4 encG (.slice none 0 0) [] W2 := RowI.nil (Below.refl _ _)
 clear hi1 hi2 hv1 hv2 HEA HEB HLB
 go_wp2_with fail
 go_loopg [5, 8] es.length (fun g v i wr => ∃ k : Nat, k ≤ es.length ∧ g = es.length - k ∧ i = .int .i64 k ∧ RowI W2 61 4 encG v ((es.take k).filter fun e => decide (bk e ∈ fs)) wr)
 case atStart => exact ⟨0, Nat.zero_le _, rfl, rfl, by rw [List.take_zero]; exact HR0⟩
 case round =>
  clear HR0
  obtain ⟨k, hk, hgk, rfl, HV⟩ := hrel
  have HGK := Lib.hid hgk
  clear hgk
  by_cases hlt : k < es.length
  ·obtain ⟨ad, rfl, -, -⟩ := Items.at kindG.len (HI1.out _ HV.1) hlt
   have HC : Hid (∀ W, Below W2.heap.size W2 W → W.cell? (ad.add (k * 4)) = some (.int .i64 es[k].1.1) ∧ W.cell? ⟨(ad.add (k * 4)).block, (ad.add (k * 4)).off + 1, none⟩ = some (.int .i64 es[k].1.2) ∧ W.cell? ⟨(ad.add (k * 4)).block, (ad.add (k * 4)).off + 2, none⟩ = some (.int .i64 es[k].2.1) ∧ W.cell? ⟨(ad.add (k * 4)).block, (ad.add (k * 4)).off + 3, none⟩ = some (.int .i64 es[k].2.2)) := fun W h => by
    obtain ⟨ad', e', -, h0, h1⟩ := Items.at kindG.len (HI1.out _ h) hlt
    obtain rfl := Option.some.inj e'
    exact ⟨h0 _ (by decide) rfl, h1 1 _ (by decide) (by decide) rfl, h1 2 _ (by decide) (by decide) rfl, h1 3 _ (by decide) (by decide) rfl⟩
   have hlen : ((es.take k).filter fun e => decide (bk e ∈ fs)).length ≤ 1000000 := by
    have h1 := List.length_filter_le (fun e => decide (bk e ∈ fs)) (es.take k)
    have h2 := List.length_take_le k es
    have := HLA.out
    omega
   have HLN := Lib.hid hlen
   have HTY : Hid (bk es[k] ∈ fs → ((es.take (k + 1)).filter fun e => decide (bk e ∈ fs)) = ((es.take k).filter fun e => decide (bk e ∈ fs)) ++ [es[k]]) := fun h => by
    rw [List.take_succ_eq_append_getElem hlt, List.filter_append]; simp [h]
   have HTN : Hid (bk es[k] ∉ fs → ((es.take (k + 1)).filter fun e => decide (bk e ∈ fs)) = ((es.take k).filter fun e => decide (bk e ∈ fs))) := fun h => by
    rw [List.take_succ_eq_append_getElem hlt, List.filter_append]; simp [h]
   have b0 : (0 : Int) ≤ (k : Int) := by omega
   have b1 : (k : Int) < (es.length : Int) := by omega
   have b6 : (es.length : Int) ≤ 1000000 := by have := HLA.out; omega
   have z4 := wrap_in (n := (k : Int)) (by omega) (by omega)
   have z3 := wrap_in (n := (k : Int) + 1) (by omega) (by omega)
   obtain ⟨A5, c5, rfl, -, -⟩ := HV.items
   clear hlen HI1
   generalize es[k] = x at *
   generalize ((es.take k).filter fun e => decide (bk e ∈ fs)) = L at *
   have hpl := fun W h => HPL.out (bk x) W h
   have eb : bk x = ((x.2.1, x.2.2), (x.1.1, x.1.2)) := rfl
   rw [eb] at hpl
   dsimp only at hpl
   have HPX := Lib.hid hpl
   clear hpl HPL
   go_upto_region 6 with (fail)
   go_cut [32] (fun s wx => ∃ c, s = .bool c ∧ (c = true ↔ bk x ∈ fs) ∧ RowI W2 61 4 encG (.slice A5 L.length c5) L wx)
   case first =>
    clear HTY HTN HGK
    have HBD := Lib.hid HV.drew.1
    go_region_held3 (fun W => W.cell? (ad.add (k * 4)) = some (.int .i64 x.1.1) ∧ W.cell? ⟨(ad.add (k * 4)).block, (ad.add (k * 4)).off + 1, none⟩ = some (.int .i64 x.1.2) ∧ W.cell? ⟨(ad.add (k * 4)).block, (ad.add (k * 4)).off + 2, none⟩ = some (.int .i64 x.2.1) ∧ W.cell? ⟨(ad.add (k * 4)).block, (ad.add (k * 4)).off + 3, none⟩ = some (.int .i64 x.2.2)) (first | exact HC.out _ HV.drew.1 | exact HC.out _ HR9.1) ((go_at_call 43; (with_reducible refine (HPX.out _ HBD.out).mono ?_); rintro e' w' ⟨n, rfl, hn, hB⟩; have HPS := Lib.hid hn.pos; clear hn; have HR9 := HV.drew.on hB))
    go_wp2_with fail
    go_meet
    exact ⟨_, rfl, by rw [decide_eq_true_eq]; exact HPS.out, HR9⟩
   case rest =>
    obtain ⟨c, rfl, hc, HV3⟩ := hcut
    have HV2 := Lib.hid HV3
    clear HV3 HV HPX
    cases c
    ·have HN := Lib.hid (HTN.out fun h => by have := hc.2 h; cases this)
     clear hc HTY HTN HC
     go_wp2
     go_roundg (es.length - (k + 1))
     case measure => have := HGK.out; omega
     case rel => exact ⟨k + 1, by omega, rfl, by go_num, by rw [HN.out]; exact HV2.out⟩
    ·have HE := Lib.hid (HTY.out (hc.1 rfl))
     obtain ⟨d0, d1, d2, d3⟩ := HC.out _ HV2.out.1
     clear hc HTY HTN HC
     go_wp2_with (at_builtin; go_must (refine append_itemG kindG Tryz.underlying51 HV2.out x 61 #[.int .i64 x.1.1, .int .i64 x.1.2, .int .i64 x.2.1, .int .i64 x.2.2] rfl (by have := HLN.out; unfold maxLen; omega) (by have := HLN.out; omega) rfl _ _ rfl rfl 1 rfl ?_; rintro v9 w9 HR9 hg9; have HV9 := Lib.hid HR9; clear HR9 hg9))
     go_roundg (es.length - (k + 1))
     case measure => have := HGK.out; omega
     case rel => exact ⟨k + 1, by omega, rfl, by go_num, by rw [HE.out]; exact HV9.out⟩
  ·obtain rfl : k = es.length := by omega
   rw [List.take_length] at HV
   have HK := Lib.hid (HV.basedQ HB2.out)
   clear HV HI1 HPL
   go_wp2
   go_ret
   exact ⟨_, rfl, HK.out⟩
end Go.Proofs.YtoabooljgojoiaaGreat
