/- The document's own answer Check of a plan. -/
import Derived.Test.YtmjgbjebiiecmaaGreatRefFine
namespace Go.Proofs.YtmjgbjebiiecmaaGreat
open Go.RowKit

/-- A ring is sound, and begins at its least corner. -/
def NormP (r : List (Int × Int)) : Prop := chE r = 0 ∧ r = rotL r (leastI r r.length)
/-- The areas of the first parcels together. -/
def areaS (l : List PV) : Nat → Int
  | 0 => 0
  | k + 1 => areaS l k + (match l[k]? with | some x => area x.par.ring | none => 0)
theorem areaS_succ {l : List PV} {k : Nat} {x : PV} (h : l[k]? = some x) : areaS l (k + 1) = areaS l k + area x.par.ring := by rw [areaS, h]
def EdgeP (o : List (Int × Int)) (es : List ((Int × Int) × (Int × Int))) (i : Nat) : Prop := ∀ e, es[i]? = some e → (∀ j : Nat, j < i → es[j]? ≠ some e) ∧ (e ∈ edg o ↔ bk e ∉ es)
def PairP (es : List ((Int × Int) × (Int × Int))) (i j : Nat) : Prop := ∀ a b, es[i]? = some a → es[j]? = some b → Pair a b
/-- A plan is sound. -/
def CheckP (o : List (Int × Int)) (l : List PV) : Prop := FineP o l ∧ NormP o ∧ (∀ x ∈ l, NormP x.par.ring) ∧ areaS l l.length = area o ∧ (∀ i, i < (edgs (rings l)).length → EdgeP o (edgs (rings l)) i) ∧ (∀ i j, i < j → j < (edgs (rings l)).length → PairP (edgs (rings l)) i j) ∧ (∀ e ∈ edg o, e ∈ edgs (rings l))
noncomputable def chkB (o : List (Int × Int)) (l : List PV) : Bool := @decide (CheckP o l) (Classical.propDecidable _)
theorem chkB_iff {o : List (Int × Int)} {l : List PV} : chkB o l = true ↔ CheckP o l := by unfold chkB; exact @decide_eq_true_iff _ (Classical.propDecidable _)
theorem chkB_not {o : List (Int × Int)} {l : List PV} : chkB o l = false ↔ ¬ CheckP o l := by rw [← chkB_iff, Bool.not_eq_true]
theorem area_lim {r : List (Int × Int)} (h : chE r = 0) : -(128 * 2305843009213693952) ≤ area r ∧ area r ≤ 128 * 2305843009213693952 := by
  obtain ⟨hn, hg⟩ := arE_zero.1 (chE_zero.1 h).1
  have h3 := (chE_zero.1 h).2.1
  have := rim_lim hg (by omega) r.length (by omega)
  have e : area r = sumTo (rimS r) r.length := rfl
  have hm : (r.length : Int) * 2305843009213693952 ≤ 128 * 2305843009213693952 := by omega
  omega
theorem arHL {r : List (Int × Int)} (h : chE r = 0) : arH r = hiOf (area r) ∧ arL r = loOf (area r) ∧ arE r = 0 := by
  have h1 := (chE_zero.1 h).1
  unfold arH arL
  rw [if_pos h1, if_pos h1]
  exact ⟨rfl, rfl, h1⟩
theorem ring_le {o : List (Int × Int)} {l : List PV} : ∀ (k : Nat) (x : PV), l[k]? = some x → x.par.ring.length ≤ cornN o l (k + 1) := fun k x h => by rw [cornN_succ h]; omega
theorem cornN_mono {o : List (Int × Int)} {l : List PV} : ∀ {k m : Nat}, k ≤ m → cornN o l k ≤ cornN o l m
  | k, 0, h => by obtain rfl : k = 0 := by omega
                  exact Nat.le_refl _
  | k, m + 1, h => by
    by_cases e : k = m + 1
    · subst e; exact Nat.le_refl _
    · have := cornN_mono (o := o) (l := l) (show k ≤ m by omega)
      rw [cornN]; omega

theorem edgs_cornN (o : List (Int × Int)) (l : List PV) : ∀ k, k ≤ l.length → o.length + (edgs (rings (l.take k))).length = cornN o l k
  | 0, _ => by simp [rings, edgs, cornN]
  | k + 1, h => by
    have hlt : k < l.length := by omega
    rw [edgs_take hlt, List.length_append, edg_len, cornN_succ (List.getElem?_eq_getElem hlt), ← edgs_cornN o l k (by omega)]; omega
theorem edgs_lim {o : List (Int × Int)} {l : List PV} (h : FineP o l) : o.length + (edgs (rings l)).length ≤ 1024 := by
  have := edgs_cornN o l l.length (Nat.le_refl _)
  rw [List.take_length] at this
  have := h.2.2.2
  omega
theorem hiLo_ne {x y : Int} (h : x ≠ y) : ¬ hiOf x = hiOf y ∨ (hiOf x = hiOf y ∧ ¬ loOf x = loOf y) := by
  by_cases h1 : hiOf x = hiOf y
  · exact .inr ⟨h1, fun h2 => h (by rw [← val_of x, ← val_of y, h1, h2])⟩
  · exact .inl h1
theorem es_gd {l : List PV} (h : ∀ x ∈ l, NormP x.par.ring) : ∀ e ∈ edgs (rings l), Gd e.1 ∧ Gd e.2 := fun e he => by
  obtain ⟨r, hr, her⟩ := mem_edgs.1 he
  obtain ⟨x, hx, rfl⟩ := List.mem_map.1 hr
  obtain ⟨i, hi, rfl⟩ := mem_edg.1 her
  have hg := (arE_zero.1 (chE_zero.1 (h x hx).1).1).2
  exact ⟨nx_gd hg (by omega) i, nx_gd hg (by omega) (i + 1)⟩
/-- Whether two edges have an end in common. -/
def endB (a b : (Int × Int) × (Int × Int)) : Bool := ((decide (a.1 = b.1) || decide (a.1 = b.2)) || decide (a.2 = b.1)) || decide (a.2 = b.2)
theorem endB_iff {a b : (Int × Int) × (Int × Int)} : endB a b = true ↔ a.1 = b.1 ∨ a.1 = b.2 ∨ a.2 = b.1 ∨ a.2 = b.2 := by
  unfold endB
  simp only [Bool.or_eq_true, decide_eq_true_eq, or_assoc]
/-- Both lists of edges, in the call's own memory. -/
def Ed (w : World) (A9 : Option Addr) (es : List ((Int × Int) × (Int × Int))) (A10 : Option Addr) (bs : List ((Int × Int) × (Int × Int))) (W : World) : Prop := Below w.heap.size w W ∧ Items W W.heap.size A9 encG es ∧ Items W W.heap.size A10 encG bs
section
variable {w W W' : World} {A9 A10 : Option Addr} {es bs : List ((Int × Int) × (Int × Int))}
theorem Ed.on (h : Ed w A9 es A10 bs W) (hB : Below W.heap.size W W') : Ed w A9 es A10 bs W' := ⟨h.1.trans (hB.mono h.1.size), h.2.1.on hB, h.2.2.on hB⟩
theorem Ed.alloc (h : Ed w A9 es A10 bs W) (ob : Obj) : Ed w A9 es A10 bs (W.alloc ob) := h.on ((Below.refl _ W).alloc (Nat.le_refl _) _)
theorem Ed.drew (h : Ed w A9 es A10 bs W) : Ed w A9 es A10 bs W.drew := h.on ⟨rfl, rfl, rfl, Nat.le_refl _, fun _ _ => rfl⟩
theorem Ed.drewN (h : Ed w A9 es A10 bs W) (n : Nat) : Ed w A9 es A10 bs (W.drewN n) := h.on ⟨rfl, rfl, rfl, Nat.le_refl _, fun _ _ => rfl⟩
theorem edge_cells {B : Nat} {A : Option Addr} {ad : Addr} {k : Nat} {e : (Int × Int) × (Int × Int)} (hA : A = some ad) (hr : Items W B A encG es) (he : es[k]? = some e) : W.cell? (ad.add (k * 4)) = some (.int .i64 e.1.1) ∧ W.cell? ⟨(ad.add (k * 4)).block, (ad.add (k * 4)).off + 1, none⟩ = some (.int .i64 e.1.2) ∧ W.cell? ⟨(ad.add (k * 4)).block, (ad.add (k * 4)).off + 2, none⟩ = some (.int .i64 e.2.1) ∧ W.cell? ⟨(ad.add (k * 4)).block, (ad.add (k * 4)).off + 3, none⟩ = some (.int .i64 e.2.2) := by
  have hlt : k < es.length := by
    by_cases h : k < es.length
    · exact h
    · rw [List.getElem?_eq_none (by omega)] at he; cases he
  obtain rfl : es[k] = e := by rw [List.getElem?_eq_getElem hlt] at he; exact Option.some.inj he
  obtain ⟨ad', e1, -, h0, hc⟩ := hr.at kindG.len hlt
  obtain rfl := Option.some.inj (hA.symm.trans e1)
  exact ⟨h0 _ (by decide) rfl, hc 1 _ (by decide) (by decide) rfl, hc 2 _ (by decide) (by decide) rfl, hc 3 _ (by decide) (by decide) rfl⟩
end
end Go.Proofs.YtmjgbjebiiecmaaGreat
