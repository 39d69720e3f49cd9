/- Rings with other points in a corner's place; the program's 'replaced', 'begun' and 'edgeWith'. -/
import Derived.Test.YtfjfmieadedjoaaCutC
namespace Go.Proofs.Ytfjfmieadedjoaa
open Go.RowKit

def repL (r : List (Int × Int)) (p : Int × Int) (qs : List (Int × Int)) : List (Int × Int) := if p ∈ r then (r.take (posL r p) ++ qs) ++ r.drop (posL r p + 1) else r
theorem repL_in {r qs : List (Int × Int)} {p : Int × Int} (h : p ∈ r) : repL r p qs = (r.take (posL r p) ++ qs) ++ r.drop (posL r p + 1) := if_pos h
theorem repL_out {r qs : List (Int × Int)} {p : Int × Int} (h : p ∉ r) : repL r p qs = r := if_neg h
theorem repL_len (r qs : List (Int × Int)) (p : Int × Int) : (repL r p qs).length ≤ r.length + qs.length := by
 unfold repL
 split
 ·rw [List.length_append, List.length_append, List.length_take, List.length_drop]; omega
 ·omega
theorem plc_no {α : Type} {l : List α} {a : α} {n : Int} (h : Plc l a n) (ha : a ∉ l) : n = -1 := by
 rcases h with ⟨rfl, -⟩ | ⟨i, rfl, h, -⟩
 ·rfl
 ·exact absurd (List.mem_of_getElem? h) ha
theorem concat_gen (p1 p2 p3 : List (Int × Int)) (A1 A2 A3 : Option Addr) (c1 c2 c3 g cap : Nat) (h1 : NilOk A1 c1) (h2 : NilOk A2 c2) (h3 : NilOk A3 c3) (h0 : 0 < p1.length + p2.length + p3.length) (hn : p1.length + p2.length + p3.length ≤ 1000000) (w : World)
  (hg : w.heap[g]? = some (.cells #[.slice A1 p1.length c1, .slice A2 p2.length c2, .slice A3 p3.length c3] 23 (0, 0))) (q1 : Pts w w.heap.size A1 p1) (q2 : Pts w w.heap.size A2 p2) (q3 : Pts w w.heap.size A3 p3) :
  Calls Try.prog 25 #[.slice (some ⟨g, 0, none⟩) 3 cap] w fun e w' => ∃ v, e = .returned v ∧ Row w v ((p1 ++ p2) ++ p3) w' := by
 have h := concats_any [⟨p1, A1, c1⟩, ⟨p2, A2, c2⟩, ⟨p3, A3, c3⟩] (some ⟨g, 0, none⟩) cap (by simp) (fun x hx => by
   simp only [List.mem_cons, List.not_mem_nil, or_false] at hx
   rcases hx with rfl | rfl | rfl
   ·exact h1
   ·exact h2
   ·exact h3) (by rw [flatR_three]; simp only [List.length_append]; omega) (by rw [flatR_three]; simp only [List.length_append]; omega) w ⟨items_cells hg rfl, fun x hx => by
   simp only [List.mem_cons, List.not_mem_nil, or_false] at hx
   rcases hx with rfl | rfl | rfl
   ·exact q1
   ·exact q2
   ·exact q3⟩
 rw [flatR_three] at h
 exact h
def RingTo (w w' : World) (r : List (Int × Int)) (e : Ending) : Prop := ∃ A c, e = .returned (.slice A r.length c) ∧ Below w.heap.size w w' ∧ Pts w' w'.heap.size A r ∧ NilOk A c ∧ r.length ≤ c
theorem RingTo.of_row {w w' : World} {r : List (Int × Int)} {v : Value} (h : Row w v r w') : RingTo w w' r (.returned v) := by
 obtain ⟨A, c, rfl, h1, h2, h3⟩ := h.full
 exact ⟨A, c, rfl, h.1, h1, h2, h3⟩
set_option maxRecDepth 100000 in
set_option maxHeartbeats 2000000 in
theorem replaced_any (ps : List (Int × Int)) (ad : Addr) (cap : Nat) (p : Int × Int) (qs : List (Int × Int)) (B : Option Addr) (cb : Nat) (h3 : 2 ≤ ps.length) (hn : ps.length ≤ 1000) (hnq : qs.length ≤ 10) (hcap : ps.length ≤ cap) (hnB : NilOk B cb) (w : World) (hr : Pts w w.heap.size (some ad) ps) (hq : Pts w w.heap.size B qs) :
  Calls Try.prog 15 #[.slice (some ad) ps.length cap, .agg #[.int .i64 p.1, .int .i64 p.2], .slice B qs.length cb] w fun e w' => RingTo w w' (repL ps p qs) e := by
 have HR := Lib.hid (fun K W (h : Hold w K W) => hr.on h.1)
 have HRB := Lib.hid (fun K W (h : Hold w K W) => hq.on h.1)
 have HIX := Lib.hid (fun K W (h : Hold w K W) => indexP_any ps (some ad) cap p (by omega) W (hr.on h.1))
 have HNB := Lib.hid hnB
 have HQ := (Hold.refl w).new #[.int .i64 p.1, .int .i64 p.2] 28
 clear hr hq hnB
 go_enter Try.func15, Try.ntmps15
 go_upto_region 1 with (fail)
 generalize (World.alloc _ _) = W1 at HQ ⊢
 generalize w.heap.size = g0 at HQ ⊢
 obtain ⟨c0, c1⟩ := HQ.pt (.head _)
 have HQ1 := Lib.hid HQ
 clear HQ
 go_wp2_with fail
 go_at_call 27
 refine (HIX.out _ _ HQ1.out).mono ?_
 rintro e' W2 ⟨n, rfl, hpl, hB⟩
 have hq2 := HQ1.out.on hB
 have HQ2 := Lib.hid hq2
 clear c0 c1 hB hq2 HIX
 by_cases hmem : p ∈ ps
 ·have hn0 := plc_pos hpl hmem
  have hk := posL_lt hmem
  have HE := Lib.hid (repL_in (qs := qs) hmem)
  subst hn0
  clear hpl hmem
  generalize posL ps p = k at *
  obtain ⟨kn, hkn⟩ : ∃ n, k + 1 = n := ⟨_, rfl⟩
  rw [hkn] at HE
  have b0 : (0 : Int) ≤ (k : Int) := by omega
  have b1 : ¬ (k : Int) < 0 := by omega
  have b2 : (k : Int) ≤ (ps.length : Int) := by omega
  have b3 : (k : Int) ≤ (cap : Int) := by omega
  have b4 : IntKind.i64.wrap ((k : Int) + 1) = (kn : Int) := by rw [IntKind.wrap_i64]; omega
  have k2 : (0 : Int) ≤ (kn : Int) := by omega
  have k3 : (kn : Int) ≤ (ps.length : Int) := by omega
  have k4 : (kn : Int) ≤ (cap : Int) := by omega
  have k5 : (ps.length : Int) ≤ (cap : Int) := by omega
  have k6 : kn ≤ ps.length := by omega
  have k7 : kn ≤ cap := by omega
  have k10 : k ≤ ps.length := by omega
  have k11 : k ≤ cap := by omega
  have hl1 : (ps.take k).length = k := by rw [List.length_take]; omega
  have hl3 : (ps.drop kn).length = ps.length - kn := List.length_drop
  go_upto_region 4 with (fail)
  have hH := HQ2.out.drew
  by_cases hc : cap = kn
  ·have k8 : ¬ kn < cap := by omega
   have k12 : k ≤ kn := by omega
   have h8 := (HQ2.out.new' #[.slice (some ad) k kn, .slice B qs.length cb, .slice (some ad) (ps.length - kn) 0] 23 (n := W2.heap.size) rfl).drew
   refine wp_region_held_drew (S := fun W => W.cell? ⟨g0, 0, none⟩ = some (.int .i64 p.1) ∧ W.cell? ⟨g0, 1, none⟩ = some (.int .i64 p.2)) (by kernel_rfl) ?_ (fun hHeld => ?_)
   ·exact hH.pt (.head _)
   refine tZ 0 ?_; refine tZ 1 ?_; refine tZ 2 ?_; refine tZ 3 ?_; refine tZ 4 ?_; refine tZ 5 ?_; refine tZ 6 ?_; refine tZ 7 ?_
   refine wpAnyH_ready (rs := [8]) (by decide +kernel) (by simp) ?_
   refine AllReadyH.cons rfl (fun K hK => ?_) AllReadyH.nil
   (try simp only [jA, jB, jC])
   go_simp
   refine hK.out _ _ ?_ (fun hHeld => ?_)
   focus ((try dsimp only); exact h8.pt (.tail _ (.head _)); done)
   clear hK K
   (try simp only [Act.put, jA, jB, jC, jD, jE, jF])
   have hb8 := (h8.2.1 _ (.head _)).1
   have hr8 := HR.out _ _ h8
   have hq8 := HRB.out _ _ h8
   have HCT := Lib.hid (concat_gen (ps.take k) qs (ps.drop kn) (some ad) B (some ad) _ cb _ W2.heap.size 3 (fun e => by cases e) HNB.out (fun e => by cases e) (by rw [hl1, hl3]; omega) (by rw [hl1, hl3]; omega) _ (by rw [hl1, hl3]; exact hb8) (Pts.take k hr8) hq8 (Pts.dropAll hr8 (fun h => absurd h (by omega))))
   refine wpAnyH_ready (rs := [9]) (by decide +kernel) (by simp) ?_
   refine AllReadyH.cons rfl (fun K hK => ?_) AllReadyH.nil
   (try simp only [jA, jB, jC])
   go_simp
   (go_at_call 25; refine HCT.out.mono ?_; rintro e' W9 ⟨v, rfl, HV⟩; have h9 := h8.on HV.1)
   refine hK.out _ _ ?_ (fun hHeld => ?_)
   focus ((try dsimp only); exact h9.pt (.tail _ (.head _)); done)
   clear hK K
   (try simp only [Act.put, jA, jB, jC, jD, jE, jF])
   refine tZ 10 ?_
   refine wpAnyH_done (by decide +kernel) ?_ _
   go_wp2
   go_ret
   exact RingTo.of_row (by rw [HE.out]; exact HV.base h8.1)
  ·have k8 : kn < cap := by omega
   have k9 : ¬ cap = kn := by omega
   have h8 := (HQ2.out.new' #[.slice (some ad) k cap, .slice B qs.length cb, .slice (some (ad.add (kn * 2))) (ps.length - kn) (cap - kn)] 23 (n := W2.heap.size) rfl).drew
   refine wp_region_held_drew (S := fun W => W.cell? ⟨g0, 0, none⟩ = some (.int .i64 p.1) ∧ W.cell? ⟨g0, 1, none⟩ = some (.int .i64 p.2)) (by kernel_rfl) ?_ (fun hHeld => ?_)
   ·exact hH.pt (.head _)
   refine tZ 0 ?_; refine tZ 1 ?_; refine tZ 2 ?_; refine tZ 3 ?_; refine tZ 4 ?_; refine tZ 5 ?_; refine tZ 6 ?_; refine tZ 7 ?_
   refine wpAnyH_ready (rs := [8]) (by decide +kernel) (by simp) ?_
   refine AllReadyH.cons rfl (fun K hK => ?_) AllReadyH.nil
   (try simp only [jA, jB, jC])
   go_simp
   refine hK.out _ _ ?_ (fun hHeld => ?_)
   focus ((try dsimp only); exact h8.pt (.tail _ (.head _)); done)
   clear hK K
   (try simp only [Act.put, jA, jB, jC, jD, jE, jF])
   have hb8 := (h8.2.1 _ (.head _)).1
   have hr8 := HR.out _ _ h8
   have hq8 := HRB.out _ _ h8
   have HCT := Lib.hid (concat_gen (ps.take k) qs (ps.drop kn) (some ad) B (some (ad.add (kn * 2))) _ cb _ W2.heap.size 3 (fun e => by cases e) HNB.out (fun e => by cases e) (by rw [hl1, hl3]; omega) (by rw [hl1, hl3]; omega) _ (by rw [hl1, hl3]; exact hb8) (Pts.take k hr8) hq8 (Pts.dropAll hr8 (fun _ => rfl)))
   refine wpAnyH_ready (rs := [9]) (by decide +kernel) (by simp) ?_
   refine AllReadyH.cons rfl (fun K hK => ?_) AllReadyH.nil
   (try simp only [jA, jB, jC])
   go_simp
   (go_at_call 25; refine HCT.out.mono ?_; rintro e' W9 ⟨v, rfl, HV⟩; have h9 := h8.on HV.1)
   refine hK.out _ _ ?_ (fun hHeld => ?_)
   focus ((try dsimp only); exact h9.pt (.tail _ (.head _)); done)
   clear hK K
   (try simp only [Act.put, jA, jB, jC, jD, jE, jF])
   refine tZ 10 ?_
   refine wpAnyH_done (by decide +kernel) ?_ _
   go_wp2
   go_ret
   exact RingTo.of_row (by rw [HE.out]; exact HV.base h8.1)
 ·obtain rfl := plc_no hpl hmem
  have HE := Lib.hid (repL_out (qs := qs) hmem)
  have HX := Lib.hid (HR.out _ _ HQ2.out)
  have HB2 := Lib.hid HQ2.out.1
  clear hpl hmem
  go_wp2
  go_ret
  exact ⟨some ad, cap, by rw [HE.out]; rfl, HB2.out, by rw [HE.out]; exact HX.out, (fun e => by cases e), by rw [HE.out]; exact hcap⟩
set_option maxHeartbeats 1000000 in
theorem begun_any (ps : List (Int × Int)) (A : Option Addr) (cap : Nat) (hn : ps.length ≤ maxLen) (hcap : ps.length ≤ cap) (w : World) (hr : Pts w w.heap.size A ps) :
  Calls Try.prog 28 #[.slice A ps.length cap] w fun e w' => ∃ v, e = .returned v ∧ Row w v (nmL ps) w' := by
 have HN := Lib.hid (Norm_any ps A cap hn hcap w hr)
 clear hr hn hcap
 go_enter Try.func28, Try.ntmps28
 go_wp2_with (go_at_call 38; go_must (refine HN.out.mono ?_; rintro e' W2 ⟨v, rfl, hv⟩; have HV := Lib.hid hv; clear hv))
 go_ret
 exact ⟨_, rfl, HV.out⟩
end Go.Proofs.Ytfjfmieadedjoaa

namespace Go.Proofs.Ytfjfmieadedjoaa
open Go.RowKit

def EdgeAt (r : List (Int × Int)) (p : Int × Int) (e : Ending) : Prop :=
 (∃ k, k < r.length ∧ onB (nx r k) (nx r (k + 1)) p = true ∧ e = .returned (.tuple #[.agg #[.int .i64 (nx r k).1, .int .i64 (nx r k).2, .int .i64 (nx r (k + 1)).1, .int .i64 (nx r (k + 1)).2], .bool true])) ∨
  ((∀ j, j < r.length → onB (nx r j) (nx r (j + 1)) p = false) ∧ e = .returned (.tuple #[.agg #[.int .i64 0, .int .i64 0, .int .i64 0, .int .i64 0], .bool false]))
theorem Hold.top4 {w W : World} {L : List (Nat × Array Value × TypeId)} {g : Nat} {t : TypeId} {a b c d : Value} (h : Hold w ((g, #[a, b, c, d], t) :: L) W) (x y z u : Value) : Hold w ((g, #[x, y, z, u], t) :: L) ((((W.setCell ⟨g, 0, none⟩ x).setCell ⟨g, 1, none⟩ y).setCell ⟨g, 2, none⟩ z).setCell ⟨g, 3, none⟩ u) := (((h.set 0 x).set 1 y).set 2 z).set 3 u
set_option maxRecDepth 100000 in
set_option maxHeartbeats 2000000 in
theorem edgeWith_any (ps : List (Int × Int)) (A : Option Addr) (cap : Nat) (p : Int × Int) (hg : gdL ps = true) (hp : Gd p) (hn : ps.length ≤ 1000) (w : World) (hr : Pts w w.heap.size A ps) :
  Calls Try.prog 20 #[.slice A ps.length cap, .agg #[.int .i64 p.1, .int .i64 p.2]] w fun e w' => EdgeAt ps p e ∧ Below w.heap.size w w' := by
 have HRA := Lib.hid (fun K W (h : Hold w K W) (k i : Nat) (hk : k < ps.length) (hi : i % ps.length = k) => hr.nx h.1 hk hi)
 have HG := Lib.hid (fun (h : 0 < ps.length) i j => (gdL_three.2 ⟨nx_gd hg h i, nx_gd hg h j, hp⟩ : gdL [nx ps i, nx ps j, p] = true))
 have HQ := ((Hold.refl w).new #[.int .i64 p.1, .int .i64 p.2] 28).new' #[.int .i64 0, .int .i64 0, .int .i64 0, .int .i64 0] 50 (n := w.heap.size + 1) (by simp)
 have HNB : Hid (ps.length ≤ 1000) := hn
 clear hr hg hp
 go_enter Try.func20, Try.ntmps20
 go_upto_region 1 with (fail)
 generalize (World.alloc _ _) = W1 at HQ ⊢
 generalize w.heap.size + 1 = g4 at HQ ⊢
 obtain ⟨g3, hg3⟩ : ∃ g, w.heap.size = g := ⟨_, rfl⟩
 have HG3 := Lib.hid hg3
 rw [hg3] at HQ ⊢
 clear hg3
 go_wp2_with fail
 go_loopg [13] ps.length (fun g i wr => ∃ k : Nat, k ≤ ps.length ∧ g = ps.length - k ∧ i = .int .i64 k ∧ Hid (∀ j : Nat, j < k → onB (nx ps j) (nx ps (j + 1)) p = false) ∧ Hold w [(g4, #[.int .i64 0, .int .i64 0, .int .i64 0, .int .i64 0], 50), (g3, #[.int .i64 p.1, .int .i64 p.2], 28)] wr)
 case atStart => exact ⟨0, Nat.zero_le _, rfl, rfl, fun j hj => absurd hj (by omega), HQ⟩
 case round =>
  clear HQ
  obtain ⟨k, hk, hgk, rfl, HNO, HB⟩ := hrel
  have HGK := Lib.hid hgk
  clear hgk
  by_cases hlt : k < ps.length
  ·obtain ⟨jn, hjn, hmod, -, htm⟩ := next_place hlt
   obtain ⟨ad, hA, -, d0, d1⟩ := HRA.out _ _ HB k k hlt (Nat.mod_eq_of_lt hlt)
   obtain ⟨ad', hA', -, d2, d3⟩ := HRA.out _ _ HB jn (k + 1) hjn hmod
   subst hA
   obtain rfl := Option.some.inj hA'
   have HGD := Lib.hid (HG.out (by omega) k (k + 1))
   have HYES : Hid (onB (nx ps k) (nx ps (k + 1)) p = true → EdgeAt ps p (.returned (.tuple #[.agg #[.int .i64 (nx ps k).1, .int .i64 (nx ps k).2, .int .i64 (nx ps (k + 1)).1, .int .i64 (nx ps (k + 1)).2], .bool true]))) := fun h => .inl ⟨k, hlt, h, rfl⟩
   have HGN : Hid (onB (nx ps k) (nx ps (k + 1)) p = false → ∀ j : Nat, j < k + 1 → onB (nx ps j) (nx ps (j + 1)) p = false) := fun h j hj => by
    by_cases ej : j = k
    ·subst ej; exact h
    ·exact HNO.out j (by omega)
   have b0 : (0 : Int) ≤ (k : Int) := by omega
   have b1 : (k : Int) < (ps.length : Int) := by omega
   have b2 : (0 : Int) ≤ (jn : Int) := by omega
   have b3 : (jn : Int) < (ps.length : Int) := by omega
   have b4 : ¬ ps.length = 0 := by omega
   have b5 : ¬ ps = [] := fun e => by rw [e] at b4; exact b4 rfl
   have b6 : IntKind.i64.wrap ((k : Int) + 1) = (k : Int) + 1 := by have := HNB.out; rw [IntKind.wrap_i64]; omega
   have b7 : (ps.length : Int) ≤ 1000 := by have := HNB.out; omega
   have HRY : Hid (∀ K W, Hold w K W → W.cell? (ad.add (jn * 2)) = some (.int .i64 (nx ps (k + 1)).1) ∧ W.cell? ⟨(ad.add (jn * 2)).block, (ad.add (jn * 2)).off + 1, none⟩ = some (.int .i64 (nx ps (k + 1)).2)) := fun K W h => by
    obtain ⟨ad', hA, -, d0, d1⟩ := HRA.out _ _ h jn (k + 1) hjn hmod
    obtain rfl := Option.some.inj hA
    exact ⟨d0, d1⟩
   clear hmod hA' HG HRA HNO
   generalize hgx : nx ps k = a at *
   generalize hgy : nx ps (k + 1) = b at *
   clear hgx hgy
   go_upto_region 4 with (fail)
   have hq3 := HB.new #[.int .i64 a.1, .int .i64 a.2] 28
   clear d0 d1 d2 d3 HB
   generalize (World.alloc _ _) = W3 at hq3 ⊢
   generalize wr.heap.size = g7 at hq3 ⊢
   obtain ⟨d2, d3⟩ := HRY.out _ _ hq3
   go_upto_region 5 with (fail)
   have hq4 := hq3.new #[.int .i64 b.1, .int .i64 b.2] 28
   clear d2 d3 HRY hq3
   generalize (World.alloc _ _) = W4 at hq4 ⊢
   generalize W3.heap.size = g8 at hq4 ⊢
   have HQ4 := Lib.hid hq4
   obtain ⟨c0, c1⟩ := hq4.pt (.tail _ (.tail _ (.tail _ (.head _))))
   obtain ⟨c2, c3⟩ := hq4.pt (.tail _ (.head _))
   obtain ⟨c4, c5⟩ := hq4.pt (.head _)
   clear hq4
   go_upto_region 6 with (go_at_call 31; go_must (refine (On_good a b p HGD.out _).mono ?_; rintro e' W5 ⟨rfl, hB⟩; have hq5 := HQ4.out.on hB; clear hB))
   clear c0 c1 c2 c3 c4 c5
   have HQ6 := Lib.hid hq5
   obtain ⟨c2, c3⟩ := hq5.pt (.tail _ (.head _))
   obtain ⟨c4, c5⟩ := hq5.pt (.head _)
   have hqs : Hold w [(g4, #[.int .i64 0, .int .i64 0, .int .i64 0, .int .i64 0], 50), (g3, #[.int .i64 p.1, .int .i64 p.2], 28)] W5 := hq5.sub (by simp)
   have HQS := Lib.hid hqs
   clear hq5
   cases ho : onB a b p
   ·have HN := Lib.hid (HGN.out ho)
    clear HGN HYES ho hqs
    go_wp2_with fail
    go_roundg (ps.length - (k + 1))
    case measure => have := HGK.out; omega
    case rel => exact ⟨k + 1, by omega, rfl, by go_num, HN.out, HQS.out⟩
   ·have HN := Lib.hid (HYES.out ho)
    have z0 := hqs.cell (.head _) 0
    have z1 := hqs.cell (.head _) 1
    have z2 := hqs.cell (.head _) 2
    have z3 := hqs.cell (.head _) 3
    have f0 := hqs.frozen (.head _) 0
    have f1 := hqs.frozen (.head _) 1
    have f2 := hqs.frozen (.head _) 2
    have f3 := hqs.frozen (.head _) 3
    clear HGN HYES ho hqs
    go_wp2
    have HE := HQS.out.top4 (.int .i64 a.1) (.int .i64 a.2) (.int .i64 b.1) (.int .i64 b.2)
    have n0 := HE.cell (.head _) 0
    have n1 := HE.cell (.head _) 1
    have n2 := HE.cell (.head _) 2
    have n3 := HE.cell (.head _) 3
    simp only [List.getElem?_toArray, List.getElem?_cons_zero, List.getElem?_cons_succ] at n0 n1 n2 n3
    refine bodyPost_ret (v := .tuple #[.agg #[.int .i64 a.1, .int .i64 a.2, .int .i64 b.1, .int .i64 b.2], .bool true]) ?_ rfl ⟨HN.out, HE.1⟩
    simp [results, Try.results20, go_sem, n0, n1, n2, n3]
  ·obtain rfl : k = ps.length := by omega
   have HN : Hid (EdgeAt ps p (.returned (.tuple #[.agg #[.int .i64 0, .int .i64 0, .int .i64 0, .int .i64 0], .bool false]))) := .inr ⟨HNO.out, rfl⟩
   have HBX := Lib.hid HB
   have z0 := HB.cell (.head _) 0
   have z1 := HB.cell (.head _) 1
   have z2 := HB.cell (.head _) 2
   have z3 := HB.cell (.head _) 3
   have f0 := HB.frozen (.head _) 0
   have f1 := HB.frozen (.head _) 1
   have f2 := HB.frozen (.head _) 2
   have f3 := HB.frozen (.head _) 3
   have b9 : ¬ ((ps.length : Int) < (ps.length : Int)) := by omega
   clear HB HRA HG HNO
   go_wp2
   have HE := HBX.out.top4 (.int .i64 0) (.int .i64 0) (.int .i64 0) (.int .i64 0)
   have n0 := HE.cell (.head _) 0
   have n1 := HE.cell (.head _) 1
   have n2 := HE.cell (.head _) 2
   have n3 := HE.cell (.head _) 3
   simp only [List.getElem?_toArray, List.getElem?_cons_zero, List.getElem?_cons_succ] at n0 n1 n2 n3
   refine bodyPost_ret (v := .tuple #[.agg #[.int .i64 0, .int .i64 0, .int .i64 0, .int .i64 0], .bool false]) ?_ rfl ⟨HN.out, HE.1⟩
   simp [results, Try.results20, go_sem, n0, n1, n2, n3]
end Go.Proofs.Ytfjfmieadedjoaa

namespace Go.Proofs.Ytfjfmieadedjoaa
open Go.RowKit

theorem rep_put {ps : List (Int × Int)} {p : Int × Int} {k : Nat} (hs : Sound ps) (hk : k < ps.length) (ho : onB (nx ps k) (nx ps (k + 1)) p = true) (hp : p ∉ ps) : repL ps (nx ps k) [nx ps k, p] = putC ps p := by
 have h3 := hs.1
 have hm : nx ps k ∈ ps := nx_memC (by omega) k
 have hpos : posL ps (nx ps k) = k := posL_of (by rw [List.getElem?_eq_getElem hk, nx_lt hk]) (fun j hj e => by
  have hj' : j < ps.length := by omega
  rw [List.getElem?_eq_getElem hj'] at e
  have h1 := Option.some.inj e
  rw [← nx_lt hj'] at h1
  have := nx_inj hs hj' hk h1
  omega)
 have hi : Ins (nx ps k) (nx ps (k + 1)) p := ⟨onB_iff.1 ho, fun e => hp (e ▸ hm), fun e => hp (e ▸ nx_memC (by omega) (k + 1))⟩
 rw [repL_in hm, hpos, putC_first hs hk hi, List.take_succ_eq_append_getElem hk, ← nx_lt hk]
 simp
theorem put_none {ps : List (Int × Int)} {p : Int × Int} (h : ∀ j, j < ps.length → onB (nx ps j) (nx ps (j + 1)) p = false) : putC ps p = ps :=
 putC_off fun i hi hins => by
  have := h i hi
  rw [onB_iff.2 hins.1] at this
  cases this
set_option maxRecDepth 100000 in
set_option maxHeartbeats 2000000 in
theorem markC_any (ps : List (Int × Int)) (ad : Addr) (cap : Nat) (p : Int × Int) (g : Nat) (hs : Sound ps) (hg : gdL ps = true) (hp : Gd p) (hnp : p ∉ ps) (hn : ps.length ≤ 1000) (hcap : ps.length ≤ cap) (w : World) (hr : Pts w w.heap.size (some ad) ps) (hc0 : w.cell? ⟨g, 0, none⟩ = some (.int .i64 p.1)) (hc1 : w.cell? ⟨g, 1, none⟩ = some (.int .i64 p.2)) (hl : g < w.heap.size) :
  Calls Try.prog 19 #[.slice (some ad) ps.length cap, .pointer (some ⟨g, 0, none⟩)] w fun e w' => RingTo w w' (putC ps p) e := by
 have HEW := Lib.hid (edgeWith_any ps (some ad) cap p hg hp hn w hr)
 have HCE := Lib.hid (fun W (hb : Below w.heap.size w W) => (⟨(hb.cell (p := ⟨g, 0, none⟩) hl).trans hc0, (hb.cell (p := ⟨g, 1, none⟩) hl).trans hc1⟩ : W.cell? ⟨g, 0, none⟩ = some (.int .i64 p.1) ∧ W.cell? ⟨g, 1, none⟩ = some (.int .i64 p.2)))
 have HRP := Lib.hid (fun a qs B cb (hq2 : qs.length ≤ 10) (hnB : NilOk B cb) W (hb : Below w.heap.size w W) (hq : Pts W W.heap.size B qs) => replaced_any ps ad cap a qs B cb (by have := hs.1; omega) hn hq2 hcap hnB W (hr.on hb) hq)
 have HX := Lib.hid hr
 have HS := Lib.hid hs
 have HNP := Lib.hid hnp
 clear hr hg hp
 go_enter Try.func19, Try.ntmps19
 go_wp2_with fail
 go_at_call 20
 refine HEW.out.mono ?_
 clear HEW hc0 hc1
 rintro e' W2 ⟨⟨k, hk, ho, rfl⟩ | ⟨hno, rfl⟩, hB⟩
 ·have HE := Lib.hid (rep_put HS.out hk ho HNP.out)
  generalize nx ps k = a at *
  generalize nx ps (k + 1) = b at *
  have hq2 := ((Hold.refl w).on hB).new #[.int .i64 a.1, .int .i64 a.2, .int .i64 b.1, .int .i64 b.2] 50
  clear hB ho hk
  go_upto_region 2 with (fail)
  generalize (World.alloc _ _) = W3 at hq2 ⊢
  generalize W2.heap.size = g4 at hq2 ⊢
  have HQ2 := Lib.hid hq2
  have z0 := hq2.cell (.head _) 0
  have z1 := hq2.cell (.head _) 1
  obtain ⟨c0, c1⟩ := HCE.out _ hq2.1
  have hq5 := hq2.new #[.int .i64 a.1, .int .i64 a.2, .int .i64 p.1, .int .i64 p.2] 28
  have hp5 := pts_of (ps := [a, p]) (hq5.2.1 _ (.head _)).1 (hq5.lt (.head _))
  have HQ5 := Lib.hid hq5
  have HP5 := Lib.hid hp5
  clear hq2 hq5 hp5
  go_wp2_with (go_at_call 15; go_must (refine (HRP.out a [a, p] (some ⟨W3.heap.size, 0, none⟩) 2 (show 2 ≤ 10 by decide) (fun e => by cases e) _ HQ5.out.1 HP5.out).mono ?_; rintro e' W6 ⟨A, c, rfl, hB6, hp6, hn6, hc6⟩; have HB6 := Lib.hid hB6; have HP6 := Lib.hid hp6; have HN6 := Lib.hid hn6; have HC6 := Lib.hid hc6; clear hB6 hp6 hn6 hc6))
  go_ret
  rw [HE.out] at HP6 HC6 ⊢
  exact ⟨A, c, rfl, HQ5.out.1.trans (HB6.out.mono HQ5.out.1.size), HP6.out, HN6.out, HC6.out⟩
 ·have HE := Lib.hid (put_none hno)
  have hq2 := ((Hold.refl w).on hB).new #[.int .i64 0, .int .i64 0, .int .i64 0, .int .i64 0] 50
  clear hB hno
  go_upto_region 2 with (fail)
  generalize (World.alloc _ _) = W3 at hq2 ⊢
  have HQ2 := Lib.hid hq2
  clear hq2
  go_wp2
  go_ret
  exact ⟨some ad, cap, by rw [HE.out]; rfl, HQ2.out.1, by rw [HE.out]; exact HX.out.on HQ2.out.1, (fun e => by cases e), by rw [HE.out]; exact hcap⟩
set_option maxHeartbeats 2000000 in
theorem moveC_any (ps : List (Int × Int)) (ad : Addr) (cap : Nat) (p q : Int × Int) (g g2 : Nat) (h3 : 2 ≤ ps.length) (hn : ps.length ≤ 1000) (hcap : ps.length ≤ cap) (w : World) (hr : Pts w w.heap.size (some ad) ps) (hc0 : w.cell? ⟨g, 0, none⟩ = some (.int .i64 p.1)) (hc1 : w.cell? ⟨g, 1, none⟩ = some (.int .i64 p.2)) (hc2 : w.cell? ⟨g2, 0, none⟩ = some (.int .i64 q.1)) (hc3 : w.cell? ⟨g2, 1, none⟩ = some (.int .i64 q.2)) :
  Calls Try.prog 14 #[.slice (some ad) ps.length cap, .pointer (some ⟨g, 0, none⟩), .pointer (some ⟨g2, 0, none⟩)] w fun e w' => RingTo w w' (repL ps p [q]) e := by
 have HRP := Lib.hid (fun B cb (hnB : NilOk B cb) W (hb : Below w.heap.size w W) (hq : Pts W W.heap.size B [q]) => replaced_any ps ad cap p [q] B cb h3 hn (show 1 ≤ 10 by decide) hcap hnB W (hr.on hb) hq)
 have hq5 := (Hold.refl w).new #[.int .i64 q.1, .int .i64 q.2] 28
 have hp5 := pts_of (ps := [q]) (hq5.2.1 _ (.head _)).1 (hq5.lt (.head _))
 have HQ5 := Lib.hid hq5
 have HP5 := Lib.hid hp5
 clear hr hq5 hp5
 go_enter Try.func14, Try.ntmps14
 go_wp2_with (go_at_call 15; go_must (refine (HRP.out (some ⟨w.heap.size, 0, none⟩) 1 (fun e => by cases e) _ HQ5.out.1 HP5.out).mono ?_; rintro e' W6 ⟨A, c, rfl, hB6, hp6, hn6, hc6⟩; have HB6 := Lib.hid hB6; have HP6 := Lib.hid hp6; have HN6 := Lib.hid hn6; have HC6 := Lib.hid hc6; clear hB6 hp6 hn6 hc6))
 go_ret
 exact ⟨A, c, rfl, HQ5.out.1.trans (HB6.out.mono HQ5.out.1.size), HP6.out, HN6.out, HC6.out⟩
set_option maxHeartbeats 2000000 in
theorem clearC_any (ps : List (Int × Int)) (ad : Addr) (cap : Nat) (p : Int × Int) (g : Nat) (h3 : 2 ≤ ps.length) (hn : ps.length ≤ 1000) (hcap : ps.length ≤ cap) (w : World) (hr : Pts w w.heap.size (some ad) ps) (hc0 : w.cell? ⟨g, 0, none⟩ = some (.int .i64 p.1)) (hc1 : w.cell? ⟨g, 1, none⟩ = some (.int .i64 p.2)) :
  Calls Try.prog 22 #[.slice (some ad) ps.length cap, .pointer (some ⟨g, 0, none⟩)] w fun e w' => RingTo w w' (repL ps p []) e := by
 have HRP := Lib.hid (replaced_any ps ad cap p [] none 0 h3 hn (Nat.zero_le _) hcap (fun _ => rfl) w hr (fun h => absurd h (by simp)))
 clear hr
 go_enter Try.func22, Try.ntmps22
 go_wp2_with (go_at_call 15; go_must (refine HRP.out.mono ?_; rintro e' W6 ⟨A, c, rfl, hB6, hp6, hn6, hc6⟩; have HB6 := Lib.hid hB6; have HP6 := Lib.hid hp6; have HN6 := Lib.hid hn6; have HC6 := Lib.hid hc6; clear hB6 hp6 hn6 hc6))
 go_ret
 exact ⟨A, c, rfl, HB6.out, HP6.out, HN6.out, HC6.out⟩
end Go.Proofs.Ytfjfmieadedjoaa
