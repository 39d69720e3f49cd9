/- The contracts of the document's own answers Less, Least and Same. -/
import Derived.Test.YtoiamjglklgcdaaGreatItems
import Derived.Test.YtoiamjglklgcdaaGreatRefCheck
import Derived.Test.YtoiamjglklgcdaaGreatTile
namespace Go.Proofs.YtoiamjglklgcdaaGreat
open Go.RowKit

def lessB (a b : Int × Int) : Bool := decide (a.1 < b.1) || (decide (a.1 = b.1) && decide (a.2 < b.2))
theorem take_same {ps qs : List (Int × Int)} {k : Nat} (h1 : k < ps.length) (h2 : k < qs.length) (h : ps.take k = qs.take k) : ps.take (k + 1) = qs.take (k + 1) ↔ ps[k] = qs[k] := by
 rw [List.take_succ_eq_append_getElem h1, List.take_succ_eq_append_getElem h2, h]
 constructor
 ·intro e; exact List.head_eq_of_cons_eq (List.append_cancel_left e)
 ·intro e; rw [e]
def leastI (ps : List (Int × Int)) : Nat → Nat
 |0 => 0
 |i + 1 => if lessB (nx ps i) (nx ps (leastI ps i)) then i else leastI ps i
def rotL (ps : List (Int × Int)) (k : Nat) : List (Int × Int) := (List.range ps.length).map fun i => nx ps (k + i)
theorem rotL_length (ps : List (Int × Int)) (k : Nat) : (rotL ps k).length = ps.length := by unfold rotL; simp
theorem rotL_get (ps : List (Int × Int)) (k i : Nat) (hi : i < ps.length) : (rotL ps k)[i]? = some (nx ps (k + i)) := by
 unfold rotL; rw [List.getElem?_map, List.getElem?_range hi]; rfl
section
variable {w W : World} {L : List (Nat × Array Value × TypeId)} {q0 q1 : Addr} {a b : Int × Int}
end

end Go.Proofs.YtoiamjglklgcdaaGreat

namespace Go.Proofs.YtoiamjglklgcdaaGreat
open Go.RowKit

def idB (n : Int) : Bool := decide (1 ≤ n) && decide (n ≤ 1073741824)
theorem edg_take {r : List (Int × Int)} {k : Nat} (hk : k < r.length) : (edg r).take (k + 1) = (edg r).take k ++ [(nx r k, nx r (k + 1))] := by
 have h : k < (edg r).length := by unfold edg; rw [List.length_map, List.length_range]; exact hk
 have e : (edg r)[k] = (nx r k, nx r (k + 1)) := by simp [edg]
 rw [List.take_succ_eq_append_getElem h, e]
theorem edg_len (r : List (Int × Int)) : (edg r).length = r.length := by unfold edg; rw [List.length_map, List.length_range]

section
variable {w W : World} {g : Nat} {t : TypeId} {x0 x1 x2 x3 : Value} {L1 L2 : List (Nat × Array Value × TypeId)}
theorem Hold.set4 (h : Hold w (L1 ++ (g, #[x0, x1, x2, x3], t) :: L2) W) (y0 y1 y2 y3 : Value) : Hold w (L1 ++ (g, #[y0, y1, y2, y3], t) :: L2) ((((W.setCell ⟨g, 0, none⟩ y0).setCell ⟨g, 1, none⟩ y1).setCell ⟨g, 2, none⟩ y2).setCell ⟨g, 3, none⟩ y3) := by
 have h0 : Hold w (L1 ++ (g, #[y0, x1, x2, x3], t) :: L2) _ := Hold.put h 0 y0
 have h1 : Hold w (L1 ++ (g, #[y0, y1, x2, x3], t) :: L2) _ := Hold.put h0 1 y1
 have h2 : Hold w (L1 ++ (g, #[y0, y1, y2, x3], t) :: L2) _ := Hold.put h1 2 y2
 have h3 : Hold w (L1 ++ (g, #[y0, y1, y2, y3], t) :: L2) _ := Hold.put h2 3 y3
 exact h3
theorem Hold.q4 (h : Hold w L2 W) (hm : (g, #[x0, x1, x2, x3], t) ∈ L2) : W.cell? ⟨g, 0, none⟩ = some x0 ∧ W.cell? ⟨g, 1, none⟩ = some x1 ∧ W.cell? ⟨g, 2, none⟩ = some x2 ∧ W.cell? ⟨g, 3, none⟩ = some x3 := ⟨h.cell hm 0, h.cell hm 1, h.cell hm 2, h.cell hm 3⟩
theorem Hold.z4 (h : Hold w L2 W) (hm : (g, #[x0, x1, x2, x3], t) ∈ L2) : W.frozen? ⟨g, 0, none⟩ = false ∧ W.frozen? ⟨g, 1, none⟩ = false ∧ W.frozen? ⟨g, 2, none⟩ = false ∧ W.frozen? ⟨g, 3, none⟩ = false := ⟨h.frozen hm 0, h.frozen hm 1, h.frozen hm 2, h.frozen hm 3⟩
end
def Plc {α : Type} (l : List α) (e : α) (n : Int) : Prop := (n = -1 ∧ e ∉ l) ∨ ∃ i : Nat, n = i ∧ l[i]? = some e ∧ ∀ j : Nat, j < i → l[j]? ≠ some e
theorem Plc.pos {α : Type} {l : List α} {e : α} {n : Int} (h : Plc l e n) : 0 ≤ n ↔ e ∈ l := by
 rcases h with ⟨rfl, h⟩ | ⟨i, rfl, h, -⟩
 ·exact ⟨fun h => by omega, fun h' => absurd h' h⟩
 ·exact ⟨fun _ => List.mem_of_getElem? h, fun _ => by omega⟩
theorem Plc.at {α : Type} {l : List α} {i : Nat} (hi : i < l.length) {n : Int} (h : Plc l l[i] n) : n = i ↔ ∀ j (hj : j < i), l[j] ≠ l[i] := by
 rcases h with ⟨rfl, h⟩ | ⟨k, rfl, h, hk⟩
 ·exact absurd (List.getElem_mem hi) h
 ·constructor
  ·intro e j hj hh
   have : k = i := by omega
   subst this
   exact hk j hj (by rw [List.getElem?_eq_getElem (by omega), hh])
  ·intro hh
   have hkl : k < l.length := by
    by_cases hkl : k < l.length
    ·exact hkl
    ·rw [List.getElem?_eq_none (by omega)] at h; cases h
   rw [List.getElem?_eq_getElem hkl] at h
   have h' := Option.some.inj h
   by_cases h1 : k < i
   ·exact absurd h' (hh k h1)
   ·by_cases h2 : i < k
    ·exact absurd (List.getElem?_eq_getElem hi) (hk i h2)
    ·omega
end Go.Proofs.YtoiamjglklgcdaaGreat

namespace Go.Proofs.YtoiamjglklgcdaaGreat
open Go.RowKit

structure Par where
 id : Int
 ring : List (Int × Int)
 own : ByteArray
structure PV where
 par : Par
 A : Option Addr
 cap : Nat
def encV (x : PV) : List Value := [.int .i64 x.par.id, .slice x.A x.par.ring.length x.cap, .string x.par.own]
theorem kindV : Kind 58 encV 3 48 := Kind.mk' (z := .agg #[.int .i64 0, .slice none 0 0, .string ⟨#[]⟩]) (fun _ => rfl) (fun a u hu => by
 simp only [encV, List.mem_cons, List.not_mem_nil, or_false] at hu
 rcases hu with rfl | rfl | rfl <;> rfl) (by decide) (by kernel_rfl) rfl
def Prs (w : World) (A : Option Addr) (l : List PV) : Prop := Items w w.heap.size A encV l ∧ ∀ x ∈ l, Pts w w.heap.size x.A x.par.ring ∧ NilOk x.A x.cap ∧ x.par.ring.length * 16 ≤ 140737488355328
section
variable {w w' : World} {A : Option Addr} {l : List PV}
theorem Prs.on (h : Prs w A l) (hb : Below w.heap.size w w') : Prs w' A l := ⟨h.1.on hb, fun x hx => ⟨(h.2 x hx).1.on hb, (h.2 x hx).2⟩⟩
theorem Prs.drew (h : Prs w A l) : Prs w.drew A l := h.on ⟨rfl, rfl, rfl, Nat.le_refl _, fun _ _ => rfl⟩
theorem Prs.at (h : Prs w A l) {k : Nat} (hlt : k < l.length) : ∃ ad, A = some ad ∧ ad.block < w.heap.size ∧ w.cell? (ad.add (k * 3)) = some (.int .i64 l[k].par.id) ∧ w.cell? ⟨(ad.add (k * 3)).block, (ad.add (k * 3)).off + 1, none⟩ = some (.slice l[k].A l[k].par.ring.length l[k].cap) ∧ w.cell? ⟨(ad.add (k * 3)).block, (ad.add (k * 3)).off + 2, none⟩ = some (.string l[k].par.own) := by
 obtain ⟨ad, e, hb, h0, hc⟩ := h.1.at (kindV : Kind 58 encV 3 48).len hlt
 exact ⟨ad, e, hb, h0 _ (by decide) rfl, hc 1 _ (by decide) (by decide) rfl, hc 2 _ (by decide) (by decide) rfl⟩
end
def rings (l : List PV) : List (List (Int × Int)) := l.map fun x => x.par.ring
theorem edgs_take {l : List PV} {k : Nat} (hk : k < l.length) : edgs (rings (l.take (k + 1))) = edgs (rings (l.take k)) ++ edg l[k].par.ring := by
 rw [List.take_succ_eq_append_getElem hk]
 unfold rings edgs
 rw [List.map_append, List.flatMap_append]
 simp only [List.map_cons, List.map_nil, List.flatMap_cons, List.flatMap_nil, List.append_nil]
theorem edgs_le (l : List PV) (k : Nat) : (edgs (rings (l.take k))).length ≤ (edgs (rings l)).length := by
 have : edgs (rings l) = edgs (rings (l.take k)) ++ edgs (rings (l.drop k)) := by
  conv => lhs; rw [← List.take_append_drop k l]
  unfold rings edgs
  rw [List.map_append, List.flatMap_append]
 rw [this, List.length_append]; omega
theorem edg_le_edgs {l : List PV} {k : Nat} (hk : k < l.length) : (edgs (rings (l.take k))).length + (edg l[k].par.ring).length ≤ (edgs (rings l)).length := by
 have := edgs_le l (k + 1)
 rw [edgs_take hk, List.length_append] at this
 exact this
def OwnOk (s : ByteArray) : Prop := (∀ j (hj : j < s.size), 32 ≤ s[j].toNat ∧ s[j].toNat ≤ 126) ∧ s.size ≤ 32
noncomputable def owB (s : ByteArray) : Bool := @decide (OwnOk s) (Classical.propDecidable _)
theorem owB_iff {s : ByteArray} : owB s = true ↔ OwnOk s := by unfold owB; exact @decide_eq_true_iff _ (Classical.propDecidable _)
theorem owB_not {s : ByteArray} : owB s = false ↔ ¬ OwnOk s := by rw [← owB_iff, Bool.not_eq_true]
end Go.Proofs.YtoiamjglklgcdaaGreat
