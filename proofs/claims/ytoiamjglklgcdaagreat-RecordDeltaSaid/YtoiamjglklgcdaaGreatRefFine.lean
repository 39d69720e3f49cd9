/- The document's own answers on plans, first part: At, In, Corner, SameParcel. -/
import Derived.Test.YtoiamjglklgcdaaGreatRefPar
import Derived.Test.YtoiamjglklgcdaaGreatRingP
namespace Go.Proofs.YtoiamjglklgcdaaGreat
open Go.RowKit

section
variable {w W : World} {g : Nat} {t : TypeId} {x0 x1 x2 : Value} {L2 : List (Nat × Array Value × TypeId)}
theorem Hold.q3 (h : Hold w L2 W) (hm : (g, #[x0, x1, x2], t) ∈ L2) : W.cell? ⟨g, 0, none⟩ = some x0 ∧ W.cell? ⟨g, 1, none⟩ = some x1 ∧ W.cell? ⟨g, 2, none⟩ = some x2 := ⟨h.cell hm 0, h.cell hm 1, h.cell hm 2⟩
end
theorem Prs.cells {w W : World} {A : Option Addr} {l : List PV} {ad : Addr} {k : Nat} {x : PV} (hA : A = some ad) (hr : Prs w A l) (hx : l[k]? = some x) (hB : Below w.heap.size w W) : W.cell? (ad.add (k * 3)) = some (.int .i64 x.par.id) ∧ W.cell? ⟨(ad.add (k * 3)).block, (ad.add (k * 3)).off + 1, none⟩ = some (.slice x.A x.par.ring.length x.cap) ∧ W.cell? ⟨(ad.add (k * 3)).block, (ad.add (k * 3)).off + 2, none⟩ = some (.string x.par.own) := by
 have hlt : k < l.length := by
  by_cases h : k < l.length
  ·exact h
  ·rw [List.getElem?_eq_none (by omega)] at hx; cases hx
 obtain rfl : l[k] = x := by rw [List.getElem?_eq_getElem hlt] at hx; exact Option.some.inj hx
 obtain ⟨ad', e, -, h0, h1, h2⟩ := (hr.on hB).at hlt
 obtain rfl := Option.some.inj (hA.symm.trans e)
 exact ⟨h0, h1, h2⟩
end Go.Proofs.YtoiamjglklgcdaaGreat

namespace Go.Proofs.YtoiamjglklgcdaaGreat
open Go.RowKit

def cornN (o : List (Int × Int)) (l : List PV) : Nat → Nat
 |0 => o.length
 |k + 1 => cornN o l k + (match l[k]? with | some x => x.par.ring.length | none => 0)
def lastI (l : List PV) : Nat → Int
 |0 => 0
 |k + 1 => match l[k]? with | some x => x.par.id | none => 0
def FineAt (o : List (Int × Int)) (l : List PV) (k : Nat) : Prop := ∀ x, l[k]? = some x → idB x.par.id = true ∧ lastI l k < x.par.id ∧ OwnOk x.par.own ∧ cornN o l (k + 1) ≤ 1024
def FineP (o : List (Int × Int)) (l : List PV) : Prop := (∀ k, k < l.length → FineAt o l k) ∧ 1 ≤ l.length ∧ l.length ≤ 64 ∧ cornN o l l.length ≤ 1024
theorem cornN_succ {o : List (Int × Int)} {l : List PV} {k : Nat} {x : PV} (h : l[k]? = some x) : cornN o l (k + 1) = cornN o l k + x.par.ring.length := by rw [cornN, h]
theorem lastI_succ {l : List PV} {k : Nat} {x : PV} (h : l[k]? = some x) : lastI l (k + 1) = x.par.id := by rw [lastI, h]

end Go.Proofs.YtoiamjglklgcdaaGreat
namespace Go.Proofs.YtoiamjglklgcdaaGreat
open Go.RowKit

def NormP (r : List (Int × Int)) : Prop := chE r = 0 ∧ r = rotL r (leastI r r.length)
def areaS (l : List PV) : Nat → Int
 |0 => 0
 |k + 1 => areaS l k + (match l[k]? with | some x => area x.par.ring | none => 0)
theorem areaS_succ {l : List PV} {k : Nat} {x : PV} (h : l[k]? = some x) : areaS l (k + 1) = areaS l k + area x.par.ring := by rw [areaS, h]
def EdgeP (o : List (Int × Int)) (es : List ((Int × Int) × (Int × Int))) (i : Nat) : Prop := ∀ e, es[i]? = some e → (∀ j : Nat, j < i → es[j]? ≠ some e) ∧ (e ∈ edg o ↔ bk e ∉ es)
def PairP (es : List ((Int × Int) × (Int × Int))) (i j : Nat) : Prop := ∀ a b, es[i]? = some a → es[j]? = some b → Pair a b
def CheckP (o : List (Int × Int)) (l : List PV) : Prop := FineP o l ∧ NormP o ∧ (∀ x ∈ l, NormP x.par.ring) ∧ areaS l l.length = area o ∧ (∀ i, i < (edgs (rings l)).length → EdgeP o (edgs (rings l)) i) ∧ (∀ i j, i < j → j < (edgs (rings l)).length → PairP (edgs (rings l)) i j) ∧ (∀ e ∈ edg o, e ∈ edgs (rings l))
noncomputable def chkB (o : List (Int × Int)) (l : List PV) : Bool := @decide (CheckP o l) (Classical.propDecidable _)
theorem chkB_iff {o : List (Int × Int)} {l : List PV} : chkB o l = true ↔ CheckP o l := by unfold chkB; exact @decide_eq_true_iff _ (Classical.propDecidable _)
theorem area_lim {r : List (Int × Int)} (h : chE r = 0) : -(128 * 2305843009213693952) ≤ area r ∧ area r ≤ 128 * 2305843009213693952 := by
 obtain ⟨hn, hg⟩ := arE_zero.1 (chE_zero.1 h).1
 have h3 := (chE_zero.1 h).2.1
 have := rim_lim hg (by omega) r.length (by omega)
 have e : area r = sumTo (rimS r) r.length := rfl
 have hm : (r.length : Int) * 2305843009213693952 ≤ 128 * 2305843009213693952 := by omega
 omega
theorem arHL {r : List (Int × Int)} (h : chE r = 0) : arH r = hiOf (area r) ∧ arL r = loOf (area r) ∧ arE r = 0 := by
 have h1 := (chE_zero.1 h).1
 unfold arH arL
 rw [if_pos h1, if_pos h1]
 exact ⟨rfl, rfl, h1⟩
theorem cornN_mono {o : List (Int × Int)} {l : List PV} : ∀ {k m : Nat}, k ≤ m → cornN o l k ≤ cornN o l m
  | k, 0, h => by obtain rfl : k = 0 := by omega
                  exact Nat.le_refl _
  | k, m + 1, h => by
    by_cases e : k = m + 1
    · subst e; exact Nat.le_refl _
    · have := cornN_mono (o := o) (l := l) (show k ≤ m by omega)
      rw [cornN]; omega

theorem edgs_cornN (o : List (Int × Int)) (l : List PV) : ∀ k, k ≤ l.length → o.length + (edgs (rings (l.take k))).length = cornN o l k
 |0, _ => by simp [rings, edgs, cornN]
 |k + 1, h => by
  have hlt : k < l.length := by omega
  rw [edgs_take hlt, List.length_append, edg_len, cornN_succ (List.getElem?_eq_getElem hlt), ← edgs_cornN o l k (by omega)]; omega
theorem es_gd {l : List PV} (h : ∀ x ∈ l, NormP x.par.ring) : ∀ e ∈ edgs (rings l), Gd e.1 ∧ Gd e.2 := fun e he => by
 obtain ⟨r, hr, her⟩ := mem_edgs.1 he
 obtain ⟨x, hx, rfl⟩ := List.mem_map.1 hr
 obtain ⟨i, hi, rfl⟩ := mem_edg.1 her
 have hg := (arE_zero.1 (chE_zero.1 (h x hx).1).1).2
 exact ⟨nx_gd hg (by omega) i, nx_gd hg (by omega) (i + 1)⟩
def Ed (w : World) (A9 : Option Addr) (es : List ((Int × Int) × (Int × Int))) (A10 : Option Addr) (bs : List ((Int × Int) × (Int × Int))) (W : World) : Prop := Below w.heap.size w W ∧ Items W W.heap.size A9 encG es ∧ Items W W.heap.size A10 encG bs
section
variable {w W W' : World} {A9 A10 : Option Addr} {es bs : List ((Int × Int) × (Int × Int))}
theorem Ed.on (h : Ed w A9 es A10 bs W) (hB : Below W.heap.size W W') : Ed w A9 es A10 bs W' := ⟨h.1.trans (hB.mono h.1.size), h.2.1.on hB, h.2.2.on hB⟩
theorem Ed.alloc (h : Ed w A9 es A10 bs W) (ob : Obj) : Ed w A9 es A10 bs (W.alloc ob) := h.on ((Below.refl _ W).alloc (Nat.le_refl _) _)
theorem Ed.drew (h : Ed w A9 es A10 bs W) : Ed w A9 es A10 bs W.drew := h.on ⟨rfl, rfl, rfl, Nat.le_refl _, fun _ _ => rfl⟩
theorem Ed.drewN (h : Ed w A9 es A10 bs W) (n : Nat) : Ed w A9 es A10 bs (W.drewN n) := h.on ⟨rfl, rfl, rfl, Nat.le_refl _, fun _ _ => rfl⟩
end
end Go.Proofs.YtoiamjglklgcdaaGreat
