/- A slice that reads as a ring: its corners, counted around. -/
import Derived.Test.YtoiamjglklgcdaaGreatGeoAns
import Derived.Test.YtoiamjglklgcdaaGreatPlane
import Derived.Test.YtoiamjglklgcdaaGreatRefMul
import Derived.Deep.LoopGhost
namespace Go.Proofs.YtoiamjglklgcdaaGreat
open Go.RowKit

section
variable {w W : World} {g : Nat} {cs : Array Value} {t : TypeId}
theorem Hold.put {L1 L2 : List (Nat × Array Value × TypeId)} (h : Hold w (L1 ++ (g, cs, t) :: L2) W) (i : Nat) (x : Value) : Hold w (L1 ++ (g, cs.setIfInBounds i x, t) :: L2) (W.setCell ⟨g, i, none⟩ x) := by
 have hm : (g, cs, t) ∈ L1 ++ (g, cs, t) :: L2 := List.mem_append_right _ List.mem_cons_self
 have hg := h.2.1 _ hm
 have hp := List.pairwise_append.1 h.2.2
 have hp2 := List.pairwise_cons.1 hp.2.1
 have far : ∀ e : Nat × Array Value × TypeId, e.1 ≠ g → e ∈ L1 ++ (g, cs, t) :: L2 → (W.setCell ⟨g, i, none⟩ x).heap[e.1]? = some (.cells e.2.1 e.2.2 (0, 0)) ∧ w.heap.size ≤ e.1 := fun e hne he => ⟨(Below.heap_setCell _ _ _ e.1 hne).trans (h.2.1 e he).1, (h.2.1 e he).2⟩
 refine ⟨h.1.setCell hg.2 _, fun e he => ?_, ?_⟩
 ·rcases List.mem_append.1 he with he | he
  ·exact far e (fun e' => Nat.lt_irrefl g (by have := hp.2.2 e he (g, cs, t) List.mem_cons_self; simp only [e'] at this; exact this)) (List.mem_append_left _ he)
  ·rcases List.mem_cons.1 he with rfl | he
   ·refine ⟨?_, hg.2⟩
    simp [World.setCell, Array.getElem?_modify, hg.1]
   ·exact far e (Nat.ne_of_lt (hp2.1 e he)) (List.mem_append_right _ (List.mem_cons_of_mem _ he))
 ·refine List.pairwise_append.2 ⟨hp.1, List.pairwise_cons.2 ⟨hp2.1, hp2.2⟩, fun a ha b hb => ?_⟩
  rcases List.mem_cons.1 hb with rfl | hb
  ·exact hp.2.2 a ha (g, cs, t) List.mem_cons_self
  ·exact hp.2.2 a ha b (List.mem_cons_of_mem _ hb)
end
section
variable {w wr : World} {A : Option Addr} {ps : List (Int × Int)}
theorem Pts.nx (h : Pts w w.heap.size A ps) (hb : Below w.heap.size w wr) {k i : Nat} (hk : k < ps.length) (hi : i % ps.length = k) : ∃ ad, A = some ad ∧ ad.block < w.heap.size ∧ wr.cell? (ad.add (k * 2)) = some (.int .i64 (nx ps i).1) ∧ wr.cell? ⟨(ad.add (k * 2)).block, (ad.add (k * 2)).off + 1, none⟩ = some (.int .i64 (nx ps i).2) := by
 obtain ⟨ad, e, hlt, c0, c1⟩ := h.at hb hk
 have hn : Go.Proofs.YtoiamjglklgcdaaGreat.nx ps i = ps[k] := by rw [← nx_mod, hi, nx_lt hk]
 rw [hn]
 exact ⟨ad, e, hlt, c0, c1⟩
theorem nx_gd (hg : gdL ps = true) (h0 : 0 < ps.length) (i : Nat) : Gd (nx ps i) := by
 have hi := Nat.mod_lt i h0
 rw [← nx_mod, nx_lt hi]
 unfold gdL at hg
 exact gd_iff.1 (List.all_eq_true.1 hg _ (List.getElem_mem hi))
theorem next_place {k n : Nat} (hk : k < n) : ∃ j : Nat, j < n ∧ (k + 1) % n = j ∧ ((k : Int) + 1) % (n : Int) = (j : Int) ∧ ((k : Int) + 1).tmod (n : Int) = (j : Int) := by
 refine ⟨(k + 1) % n, Nat.mod_lt _ (by omega), rfl, ?_, ?_⟩
 ·rw [Int.natCast_emod]; rfl
 ·rw [Int.tmod_eq_emod_of_nonneg (by omega), Int.natCast_emod]; rfl
end
end Go.Proofs.YtoiamjglklgcdaaGreat

namespace Go.Proofs.YtoiamjglklgcdaaGreat
open Go.RowKit

def arE (ps : List (Int × Int)) : Int := if 128 < ps.length then 12 else if gdL ps then 0 else 3
def rimS (ps : List (Int × Int)) (i : Nat) : Int := crs0 (nx ps i) (nx ps (i + 1))
theorem crs0_lim {a b : Int × Int} (ha : Gd a) (hb : Gd b) : -2305843009213693952 ≤ crs0 a b ∧ crs0 a b ≤ 2305843009213693952 ∧ InR (a.1 * b.2) ∧ InR (a.2 * b.1) ∧ InR (a.1 * b.2 - a.2 * b.1) := by
 unfold Gd at ha hb
 have h1 := mul_lim (x := a.1) (y := b.2) (P := 1073741824) (Q := 1073741824) (by omega) (by omega)
 have h2 := mul_lim (x := a.2) (y := b.1) (P := 1073741824) (Q := 1073741824) (by omega) (by omega)
 unfold crs0 InR
 omega
theorem rim_lim {ps : List (Int × Int)} (hg : gdL ps = true) (h0 : 0 < ps.length) (k : Nat) (hk : k ≤ 200) : -(k * 2305843009213693952) ≤ sumTo (rimS ps) k ∧ sumTo (rimS ps) k ≤ k * 2305843009213693952 ∧ InR (sumTo (rimS ps) k) := by
 have h := sumTo_lim (f := rimS ps) (B := 2305843009213693952) k (fun i _ => ⟨(crs0_lim (nx_gd hg h0 i) (nx_gd hg h0 (i + 1))).1, (crs0_lim (nx_gd hg h0 i) (nx_gd hg h0 (i + 1))).2.1⟩)
 unfold InR
 omega
theorem rim_inR {ps : List (Int × Int)} (hg : gdL ps = true) (hn : ps.length ≤ 128) {k : Nat} (hk : k ≤ ps.length) : InR (sumTo (rimS ps) k) := by
 by_cases h0 : 0 < ps.length
 ·exact (rim_lim hg h0 k (by omega)).2.2
 ·have : k = 0 := by omega
  subst this
  unfold InR sumTo; omega

section
variable {w W : World} {g : Nat} {t : TypeId} {x y u v : Value} {q : Addr} {L : List (Nat × Array Value × TypeId)}
theorem Hold.far (h : Hold w L W) (hq : q.block < w.heap.size) (hc : w.cell? q = some u) : W.cell? q = some u := (h.1.cell hq).trans hc
end

section
variable {w W : World} {g g' : Nat} {t t' : TypeId} {x y u v : Value} {q : Addr} {cs : Array Value} {e2 e3 : Nat × Array Value × TypeId}
end

end Go.Proofs.YtoiamjglklgcdaaGreat

namespace Go.Proofs.YtoiamjglklgcdaaGreat
open Go.RowKit

section
variable {w W : World} {g0 g1 g2 : Nat} {x0 y0 x1 y1 x2 y2 : Value} {t0 t1 t2 : TypeId}
end

end Go.Proofs.YtoiamjglklgcdaaGreat
