/- A slice that reads as a ring: its corners, counted around. -/
import Derived.Test.YtjlnjjmomohpaaaGreatGeoAns
import Derived.Test.YtjlnjjmomohpaaaGreatPlane
import Derived.Test.YtjlnjjmomohpaaaGreatRefMul
import Derived.Deep.LoopGhost
namespace Go.Proofs.YtjlnjjmomohpaaaGreat
open Go.RowKit

section
variable {w W : World} {g : Nat} {cs : Array Value} {t : TypeId}
theorem Hold.put {L1 L2 : List (Nat × Array Value × TypeId)} (h : Hold w (L1 ++ (g, cs, t) :: L2) W) (i : Nat) (x : Value) : Hold w (L1 ++ (g, cs.setIfInBounds i x, t) :: L2) (W.setCell ⟨g, i, none⟩ x) := by
 have hm : (g, cs, t) ∈ L1 ++ (g, cs, t) :: L2 := List.mem_append_right _ List.mem_cons_self
 have hg := h.2.1 _ hm
 have hp := List.pairwise_append.1 h.2.2
 have hp2 := List.pairwise_cons.1 hp.2.1
 have far : ∀ e : Nat × Array Value × TypeId, e.1 ≠ g → e ∈ L1 ++ (g, cs, t) :: L2 → (W.setCell ⟨g, i, none⟩ x).heap[e.1]? = some (.cells e.2.1 e.2.2 (0, 0)) ∧ w.heap.size ≤ e.1 := fun e hne he => ⟨(Below.heap_setCell _ _ _ e.1 hne).trans (h.2.1 e he).1, (h.2.1 e he).2⟩
 refine ⟨h.1.setCell hg.2 _, fun e he => ?_, ?_⟩
 ·rcases List.mem_append.1 he with he | he
  ·exact far e (fun e' => Nat.lt_irrefl g (by have := hp.2.2 e he (g, cs, t) List.mem_cons_self; simp only [e'] at this; exact this)) (List.mem_append_left _ he)
  ·rcases List.mem_cons.1 he with rfl | he
   ·refine ⟨?_, hg.2⟩
    simp [World.setCell, Array.getElem?_modify, hg.1]
   ·exact far e (Nat.ne_of_lt (hp2.1 e he)) (List.mem_append_right _ (List.mem_cons_of_mem _ he))
 ·refine List.pairwise_append.2 ⟨hp.1, List.pairwise_cons.2 ⟨hp2.1, hp2.2⟩, fun a ha b hb => ?_⟩
  rcases List.mem_cons.1 hb with rfl | hb
  ·exact hp.2.2 a ha (g, cs, t) List.mem_cons_self
  ·exact hp.2.2 a ha b (List.mem_cons_of_mem _ hb)
end
section
variable {w wr : World} {A : Option Addr} {ps : List (Int × Int)}
theorem Pts.nx (h : Pts w w.heap.size A ps) (hb : Below w.heap.size w wr) {k i : Nat} (hk : k < ps.length) (hi : i % ps.length = k) : ∃ ad, A = some ad ∧ ad.block < w.heap.size ∧ wr.cell? (ad.add (k * 2)) = some (.int .i64 (nx ps i).1) ∧ wr.cell? ⟨(ad.add (k * 2)).block, (ad.add (k * 2)).off + 1, none⟩ = some (.int .i64 (nx ps i).2) := by
 obtain ⟨ad, e, hlt, c0, c1⟩ := h.at hb hk
 have hn : Go.Proofs.YtjlnjjmomohpaaaGreat.nx ps i = ps[k] := by rw [← nx_mod, hi, nx_lt hk]
 rw [hn]
 exact ⟨ad, e, hlt, c0, c1⟩
theorem nx_gd (hg : gdL ps = true) (h0 : 0 < ps.length) (i : Nat) : Gd (nx ps i) := by
 have hi := Nat.mod_lt i h0
 rw [← nx_mod, nx_lt hi]
 unfold gdL at hg
 exact gd_iff.1 (List.all_eq_true.1 hg _ (List.getElem_mem hi))
theorem next_place {k n : Nat} (hk : k < n) : ∃ j : Nat, j < n ∧ (k + 1) % n = j ∧ ((k : Int) + 1) % (n : Int) = (j : Int) ∧ ((k : Int) + 1).tmod (n : Int) = (j : Int) := by
 refine ⟨(k + 1) % n, Nat.mod_lt _ (by omega), rfl, ?_, ?_⟩
 ·rw [Int.natCast_emod]; rfl
 ·rw [Int.tmod_eq_emod_of_nonneg (by omega), Int.natCast_emod]; rfl
end
end Go.Proofs.YtjlnjjmomohpaaaGreat

namespace Go.Proofs.YtjlnjjmomohpaaaGreat
open Go.RowKit

def arE (ps : List (Int × Int)) : Int := if 128 < ps.length then 12 else if gdL ps then 0 else 3
def rimS (ps : List (Int × Int)) (i : Nat) : Int := crs0 (nx ps i) (nx ps (i + 1))
theorem crs0_lim {a b : Int × Int} (ha : Gd a) (hb : Gd b) : -2305843009213693952 ≤ crs0 a b ∧ crs0 a b ≤ 2305843009213693952 ∧ InR (a.1 * b.2) ∧ InR (a.2 * b.1) ∧ InR (a.1 * b.2 - a.2 * b.1) := by
 unfold Gd at ha hb
 have h1 := mul_lim (x := a.1) (y := b.2) (P := 1073741824) (Q := 1073741824) (by omega) (by omega)
 have h2 := mul_lim (x := a.2) (y := b.1) (P := 1073741824) (Q := 1073741824) (by omega) (by omega)
 unfold crs0 InR
 omega
theorem rim_lim {ps : List (Int × Int)} (hg : gdL ps = true) (h0 : 0 < ps.length) (k : Nat) (hk : k ≤ 200) : -(k * 2305843009213693952) ≤ sumTo (rimS ps) k ∧ sumTo (rimS ps) k ≤ k * 2305843009213693952 ∧ InR (sumTo (rimS ps) k) := by
 have h := sumTo_lim (f := rimS ps) (B := 2305843009213693952) k (fun i _ => ⟨(crs0_lim (nx_gd hg h0 i) (nx_gd hg h0 (i + 1))).1, (crs0_lim (nx_gd hg h0 i) (nx_gd hg h0 (i + 1))).2.1⟩)
 unfold InR
 omega
theorem rim_inR {ps : List (Int × Int)} (hg : gdL ps = true) (hn : ps.length ≤ 128) {k : Nat} (hk : k ≤ ps.length) : InR (sumTo (rimS ps) k) := by
 by_cases h0 : 0 < ps.length
 ·exact (rim_lim hg h0 k (by omega)).2.2
 ·have : k = 0 := by omega
  subst this
  unfold InR sumTo; omega

section
variable {w W : World} {g : Nat} {t : TypeId} {x y u v : Value} {q : Addr} {L : List (Nat × Array Value × TypeId)}
theorem Hold.far (h : Hold w L W) (hq : q.block < w.heap.size) (hc : w.cell? q = some u) : W.cell? q = some u := (h.1.cell hq).trans hc
theorem Hold.atop (h : Hold w ((g, #[x, y], t) :: L) W) (hq : q.block < w.heap.size ∧ w.cell? q = some u ∧ w.cell? ⟨q.block, q.off + 1, none⟩ = some v) : W.cell? q = some u ∧ W.cell? ⟨q.block, q.off + 1, none⟩ = some v ∧ W.cell? ⟨g, 0, none⟩ = some x ∧ W.cell? ⟨g, 1, none⟩ = some y :=
 ⟨h.far hq.1 hq.2.1, h.far (q := ⟨q.block, q.off + 1, none⟩) hq.1 hq.2.2, (h.pt (.head _)).1, (h.pt (.head _)).2⟩
theorem Hold.topn {e1 e2 e3 : Nat × Array Value × TypeId} (h : Hold w [(g, #[x, y], t), e1, e2, e3] W) : W.cell? ⟨g, 0, none⟩ = some x ∧ W.cell? ⟨g, 1, none⟩ = some y ∧ W.frozen? ⟨g, 0, none⟩ = false ∧ W.frozen? ⟨g, 1, none⟩ = false := h.top
theorem Hold.skip2 {e1 e2 e3 e4 : Nat × Array Value × TypeId} (h : Hold w [e1, e2, e3, e4] W) : Hold w [e1, e3, e4] W := h.sub (by simp)
end

theorem rim_calls {a b : Int × Int} (ha : Gd a) (hb : Gd b) :
  Hid (∀ W, Calls Tryz.prog 76 #[.int .i64 a.1, .int .i64 b.2] W fun e w' => e = .returned (.agg #[.int .i64 (hiOf (a.1 * b.2)), .int .u64 (loOf (a.1 * b.2))]) ∧ Below W.heap.size W w') ∧
  Hid (∀ W, Calls Tryz.prog 76 #[.int .i64 a.2, .int .i64 b.1] W fun e w' => e = .returned (.agg #[.int .i64 (hiOf (a.2 * b.1)), .int .u64 (loOf (a.2 * b.1))]) ∧ Below W.heap.size W w') ∧
  Hid (∀ W, Calls Tryz.prog 75 #[.agg #[.int .i64 (hiOf (a.1 * b.2)), .int .u64 (loOf (a.1 * b.2))], .agg #[.int .i64 (hiOf (a.2 * b.1)), .int .u64 (loOf (a.2 * b.1))]] W fun e w' => e = .returned (.tuple #[.agg #[.int .i64 (hiOf (crs0 a b)), .int .u64 (loOf (crs0 a b))], .int .i64 0]) ∧ Below W.heap.size W w') := by
 obtain ⟨-, -, i1, i2, i3⟩ := crs0_lim ha hb
 obtain ⟨s1, s2, s3⟩ := sub_of i1 i2 i3
 have hs := fun W => ref_sub _ _ _ _ (wf_of i1) (wf_of i2) W
 rw [s1, s2, s3] at hs
 unfold Gd at ha hb
 exact ⟨fun W => ref_mul _ _ (by omega) (by omega) (by omega) (by omega) W, fun W => ref_mul _ _ (by omega) (by omega) (by omega) (by omega) W, hs⟩
theorem rim_add {x y : Int} (hx : InR x) (hy : InR y) (hz : InR (x + y)) : Hid (∀ W, Calls Tryz.prog 34 #[.agg #[.int .i64 (hiOf x), .int .u64 (loOf x)], .agg #[.int .i64 (hiOf y), .int .u64 (loOf y)]] W fun e w' => e = .returned (.tuple #[.agg #[.int .i64 (hiOf (x + y)), .int .u64 (loOf (x + y))], .int .i64 0]) ∧ Below W.heap.size W w') := by
 obtain ⟨s1, s2, s3⟩ := add_of hx hy hz
 have hs := fun W => ref_add _ _ _ _ (wf_of hx) (wf_of hy) W
 rw [s1, s2, s3] at hs
 exact hs

set_option maxHeartbeats 800000 in
theorem ref_area_bad (ps : List (Int × Int)) (A : Option Addr) (cap : Nat) (hn : ps.length ≤ maxLen) (he : arE ps ≠ 0) (w : World) (hr : Pts w w.heap.size A ps) :
  Calls Tryz.prog 33 #[.slice A ps.length cap] w fun e w' => e = .returned (.tuple #[.agg #[.int .i64 0, .int .u64 0], .int .i64 (arE ps)]) ∧ Below w.heap.size w w' := by
 have HQ := (Hold.refl w).new #[.int .i64 0, .int .u64 0] 67
 by_cases h1 : 128 < ps.length
 ·have HE : Hid (arE ps = 12) := by unfold Hid arE; rw [if_pos h1]
  have h2 : (128 : Int) < (ps.length : Int) := by omega
  clear he HQ hr
  unfold maxLen at hn
  go_enter Tryz.func33, Tryz.ntmps33
  go_wp2
  refine bodyPost_ret (v := .tuple #[.agg #[.int .i64 0, .int .u64 0], .int .i64 12]) ?_ rfl ⟨by rw [HE.out], by go_grown⟩
  simp [results, Tryz.results33, go_sem]
 ·have hg : gdL ps = false := by
   cases h : gdL ps
   ·rfl
   ·exact absurd (by unfold arE; rw [if_neg h1, h]; rfl) he
  have HE : Hid (arE ps = 3) := by unfold Hid arE; rw [if_neg h1, hg]; rfl
  have hA : Pts (w.alloc (Obj.cells #[.int .i64 0, .int .u64 0] 67)) (w.alloc (Obj.cells #[.int .i64 0, .int .u64 0] 67)).heap.size A ps := hr.on HQ.1
  have HA := Lib.hid hA
  have HN := Lib.hid hn
  have h2 : ¬ (128 : Int) < (ps.length : Int) := by omega
  clear he hr hA
  unfold maxLen at hn
  go_enter Tryz.func33, Tryz.ntmps33
  go_wp2_with fail
  go_at_call 74
  refine (ref_good ps A cap _ HN.out HA.out).mono ?_
  rintro e w1 ⟨rfl, hB⟩
  replace HQ := HQ.on hB
  clear hB HA HN
  obtain ⟨k0, k1, k2, k3⟩ := HQ.top
  have HS := HQ.set2 (.int .i64 0) (.int .u64 0)
  obtain ⟨n1, n2, -, -⟩ := HS.top
  have HF := Lib.hid HS.1
  clear HS HQ
  go_wp2
  refine bodyPost_ret (v := .tuple #[.agg #[.int .i64 0, .int .u64 0], .int .i64 3]) ?_ rfl ⟨by rw [HE.out], HF.out⟩
  simp [results, Tryz.results33, go_sem, n1, n2]

section
variable {w W : World} {g g' : Nat} {t t' : TypeId} {x y u v : Value} {q : Addr} {cs : Array Value} {e2 e3 : Nat × Array Value × TypeId}
theorem Hold.atop3 (h : Hold w [(g, #[x, y], t), e2, e3] W) (hq : q.block < w.heap.size ∧ w.cell? q = some u ∧ w.cell? ⟨q.block, q.off + 1, none⟩ = some v) : W.cell? q = some u ∧ W.cell? ⟨q.block, q.off + 1, none⟩ = some v ∧ W.cell? ⟨g, 0, none⟩ = some x ∧ W.cell? ⟨g, 1, none⟩ = some y := h.atop hq
theorem Hold.atop4 (h : Hold w [(g', cs, t'), (g, #[x, y], t), e2, e3] W) (hq : q.block < w.heap.size ∧ w.cell? q = some u ∧ w.cell? ⟨q.block, q.off + 1, none⟩ = some v) : W.cell? q = some u ∧ W.cell? ⟨q.block, q.off + 1, none⟩ = some v ∧ W.cell? ⟨g, 0, none⟩ = some x ∧ W.cell? ⟨g, 1, none⟩ = some y := h.tail.atop hq
end

set_option maxRecDepth 100000 in
set_option maxHeartbeats 4000000 in
theorem ref_area_good (ps : List (Int × Int)) (A : Option Addr) (cap : Nat) (he : arE ps = 0) (w : World) (hr : Pts w w.heap.size A ps) :
  Calls Tryz.prog 33 #[.slice A ps.length cap] w fun e w' => e = .returned (.tuple #[.agg #[.int .i64 (hiOf (area ps)), .int .u64 (loOf (area ps))], .int .i64 0]) ∧ Below w.heap.size w w' := by
 have h1 : ¬ 128 < ps.length := fun e => by unfold arE at he; rw [if_pos e] at he; omega
 have hg : gdL ps = true := by
  cases h : gdL ps
  ·unfold arE at he; rw [if_neg h1, h] at he; exact absurd he (by decide)
  ·rfl
 have HQ := (Hold.refl w).new #[.int .i64 0, .int .u64 0] 67
 have HA := Lib.hid (hr.on HQ.1)
 have HN := Lib.hid (show ps.length ≤ maxLen by unfold maxLen; omega)
 have hl : ps.length ≤ 128 := by omega
 have h2 : ¬ (128 : Int) < (ps.length : Int) := by omega
 have HR := Lib.hid hr
 have HIN := Lib.hid (fun k (hk : k ≤ ps.length) => rim_inR hg hl hk)
 have HGD := Lib.hid (fun h0 i => nx_gd hg h0 i)
 clear he h1 hr
 go_enter Tryz.func33, Tryz.ntmps33
 go_wp2_with fail
 go_at_call 74
 refine (ref_good ps A cap _ HN.out HA.out).mono ?_
 rintro e w1 ⟨rfl, hB⟩
 replace HQ := HQ.on hB
 clear hB HA HN
 go_wp2_with fail
 have HL := HQ.new #[.int .i64 0, .int .u64 0] 67
 generalize (World.alloc w1 _) = W1 at HL ⊢
 generalize w1.heap.size = g4 at HL ⊢
 obtain ⟨g2, hg2⟩ : ∃ g, w.heap.size = g := ⟨_, rfl⟩
 rw [hg2] at HL ⊢
 have HG2 := Lib.hid hg2
 clear hg2 HQ
 have HST := Lib.hid (fun k => show sumTo (rimS ps) (k + 1) = sumTo (rimS ps) k + rimS ps k from rfl)
 go_loopg [5] ps.length (fun n i wr => ∃ k : Nat, k ≤ ps.length ∧ n = ps.length - k ∧ i = .int .i64 k ∧ Hold w [(g4, #[.int .i64 (hiOf (sumTo (rimS ps) k)), .int .u64 (loOf (sumTo (rimS ps) k))], 67), (g2, #[.int .i64 0, .int .u64 0], 67)] wr)
 case atStart => exact ⟨0, Nat.zero_le _, rfl, rfl, HL⟩
 case round =>
  obtain ⟨k, hk, hgk, rfl, HB⟩ := hrel
  have hgk' := Lib.hid hgk
  clear hgk HL
  by_cases hlt : k < ps.length
  ·obtain ⟨j, hj, e1, e2, e3⟩ := next_place hlt
   obtain ⟨ad, rfl, hadb, d0, d1⟩ := HR.out.nx (Below.refl _ w) hlt (Nat.mod_eq_of_lt hlt)
   obtain ⟨ad', e', -, d2, d3⟩ := HR.out.nx HB.1 hj e1
   obtain rfl := Option.some.inj e'
   have hp0 := (show (ad.add (k * 2)).block < w.heap.size by rw [block_of_add]; exact hadb)
   have HC := Lib.hid (⟨hp0, d0, d1⟩ : (ad.add (k * 2)).block < w.heap.size ∧ _ ∧ _)
   have ga := HGD.out (by omega) k
   have gb := HGD.out (by omega) (k + 1)
   obtain ⟨HM1, HM2, HS⟩ := rim_calls ga gb
   have hx : InR (crs0 (nx ps k) (nx ps (k + 1))) := by have := crs0_lim ga gb; unfold InR; omega
   have HADD := rim_add (HIN.out k hk) hx (HIN.out (k + 1) (by omega))
   have HST1 : Hid (sumTo (rimS ps) (k + 1) = sumTo (rimS ps) k + crs0 (nx ps k) (nx ps (k + 1))) := HST.out k
   have b0 : (0 : Int) ≤ (k : Int) := by omega
   have b1 : (k : Int) < (ps.length : Int) := by omega
   have b2 : (0 : Int) < (ps.length : Int) := by omega
   have b4 : (0 : Int) ≤ (j : Int) := by omega
   have b5 : (j : Int) < (ps.length : Int) := by omega
   clear e' e1 ga gb hx d0 d1 hp0 hadb
   generalize nx ps k = a at *
   generalize nx ps (k + 1) = b at *
   generalize sumTo (rimS ps) k = s at *
   go_upto_region 10 with (fail)
   have HB2 := HB.new #[.int .i64 b.1, .int .i64 b.2] 56
   generalize (World.alloc wr _) = W2 at HB2 ⊢
   generalize wr.heap.size = g6 at HB2 ⊢
   clear d2 d3 HB
   go_cut [7] (fun s7 wx => ∃ g7, s7 = .pointer (some ⟨g7, 0, none⟩) ∧ Hold w [(g7, #[.int .i64 (hiOf (crs0 a b)), .int .u64 (loOf (crs0 a b))], 67), (g4, #[.int .i64 (hiOf s), .int .u64 (loOf s)], 67), (g2, #[.int .i64 0, .int .u64 0], 67)] wx)
   case first =>
    go_region_held3 (fun W => W.cell? (ad.add (k * 2)) = some (.int .i64 a.1) ∧ W.cell? ⟨(ad.add (k * 2)).block, (ad.add (k * 2)).off + 1, none⟩ = some (.int .i64 a.2) ∧ W.cell? ⟨g6, 0, none⟩ = some (.int .i64 b.1) ∧ W.cell? ⟨g6, 1, none⟩ = some (.int .i64 b.2)) (first | exact Hold.atop3 (by assumption) HC.out | exact Hold.atop4 (by assumption) HC.out | exact Hold.atop3 (Hold.drew (by assumption)) HC.out | exact Hold.atop4 (Hold.drew (by assumption)) HC.out | exact Hold.atop4 (Hold.new (by assumption) _ _) HC.out | exact Hold.atop4 (Hold.drew (Hold.new (by assumption) _ _)) HC.out | exact Hold.atop4 (Hold.set2 (by assumption) _ _) HC.out | exact Hold.atop4 (Hold.set2 (Hold.new (by assumption) _ _) _ _) HC.out) (first
     |(go_at_call 76; (with_reducible refine (HM1.out _).mono ?_); rintro e w' ⟨rfl, hB⟩; (first | (have HS' := Hold.on (by first | assumption | exact Hold.drew (by assumption)) hB) | (have HS' := Hold.on (Hold.new (by assumption) _ _) hB) | (have HS' := Hold.on (Hold.drew (Hold.new (by assumption) _ _)) hB)); (first | (have HF' := Hold.topn HS'; obtain ⟨f1, f2, f3, f4⟩ := HF') | skip))
     |(go_at_call 76; (with_reducible refine (HM2.out _).mono ?_); rintro e w' ⟨rfl, hB⟩; (first | (have HS' := Hold.on (by first | assumption | exact Hold.drew (by assumption)) hB) | (have HS' := Hold.on (Hold.new (by assumption) _ _) hB) | (have HS' := Hold.on (Hold.drew (Hold.new (by assumption) _ _)) hB)); (first | (have HF' := Hold.topn HS'; obtain ⟨f1, f2, f3, f4⟩ := HF') | skip))
     |(go_at_call 75; (with_reducible refine (HS.out _).mono ?_); rintro e w' ⟨rfl, hB⟩; (first | (have HS' := Hold.on (by first | assumption | exact Hold.drew (by assumption)) hB) | (have HS' := Hold.on (Hold.new (by assumption) _ _) hB) | (have HS' := Hold.on (Hold.drew (Hold.new (by assumption) _ _)) hB)); (first | (have HF' := Hold.topn HS'; obtain ⟨f1, f2, f3, f4⟩ := HF') | skip)))
    all_goals
     (try go_wp2_with fail)
     go_meet
     first
      |exact ⟨_, rfl, Hold.skip2 (Hold.new (by assumption) _ _)⟩
      |exact ⟨_, rfl, Hold.skip2 (Hold.set2 (by assumption) _ _)⟩
   case rest =>
    obtain ⟨g7, rfl, HT⟩ := hcut
    clear HB2 HM1 HM2 HS HC
    obtain ⟨f0, f1⟩ := HT.pt (.head _)
    obtain ⟨f2, f3⟩ := HT.pt (.tail _ (.head _))
    go_wp2_with fail
    go_at_call 34
    refine (HADD.out _).mono ?_
    rintro e w' ⟨rfl, hB⟩
    replace HT := HT.on hB
    clear hB f0 f1 f2 f3 HADD
    obtain ⟨f0, f1⟩ := HT.pt (.tail _ (.head _))
    obtain ⟨f2, f3⟩ := HT.fz (.tail _ (.head _))
    have HU := (HT.swap2 (.int .i64 (hiOf (s + crs0 a b))) (.int .u64 (loOf (s + crs0 a b)))).tail
    have HV := Lib.hid HU
    clear HU HT
    go_wp2_with fail
    go_roundg (ps.length - (k + 1))
    case measure => have := hgk'.out; omega
    case rel => exact ⟨k + 1, by omega, rfl, by go_num, by rw [HST1.out]; exact HV.out⟩
  ·obtain rfl : k = ps.length := by omega
   have ha : sumTo (rimS ps) ps.length = area ps := rfl
   rw [ha] at HB
   obtain ⟨f0, f1⟩ := HB.pt (.head _)
   obtain ⟨f2, f3⟩ := HB.pt (.tail _ (.head _))
   obtain ⟨f4, f5⟩ := HB.fz (.tail _ (.head _))
   have HU := HB.swap2 (.int .i64 (hiOf (area ps))) (.int .u64 (loOf (area ps)))
   obtain ⟨n1, n2⟩ := HU.pt (.tail _ (.head _))
   have HV := Lib.hid HU.1
   clear ha HB HU HST HGD HIN hg
   go_wp2
   refine bodyPost_ret (v := .tuple #[.agg #[.int .i64 (hiOf (area ps)), .int .u64 (loOf (area ps))], .int .i64 0]) ?_ rfl ⟨rfl, HV.out⟩
   simp [results, Tryz.results33, go_sem, n1, n2]
end Go.Proofs.YtjlnjjmomohpaaaGreat

namespace Go.Proofs.YtjlnjjmomohpaaaGreat
open Go.RowKit

section
variable {w W : World} {g0 g1 g2 : Nat} {x0 y0 x1 y1 x2 y2 : Value} {t0 t1 t2 : TypeId}
end

end Go.Proofs.YtjlnjjmomohpaaaGreat
