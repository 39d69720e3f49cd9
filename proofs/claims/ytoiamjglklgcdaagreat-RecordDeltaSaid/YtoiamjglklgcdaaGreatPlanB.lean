/- What layer plan's laws share: the program's Begin, the given answer, which plans are small. -/
import Derived.Test.YtoiamjglklgcdaaGreatPgO
namespace Go.Proofs.YtoiamjglklgcdaaGreat
open Go.RowKit

structure PlanAt (w : World) (o : List (Int × Int)) (Ao : Option Addr) (co : Nat) (l : List PV) (Ap : Option Addr) (cp : Nat) : Prop where
 prs : Prs w Ap l
 out : Pts w w.heap.size Ao o
 nil : NilOk Ao co
 room : o.length * 16 ≤ 140737488355328
 caps : o.length ≤ co ∧ ∀ x ∈ l, x.par.ring.length ≤ x.cap
theorem PlanAt.on {w w' : World} {o : List (Int × Int)} {Ao : Option Addr} {co : Nat} {l : List PV} {Ap : Option Addr} {cp : Nat} (h : PlanAt w o Ao co l Ap cp) (hb : Below w.heap.size w w') : PlanAt w' o Ao co l Ap cp :=
 ⟨h.prs.on hb, h.out.on hb, h.nil, h.room, h.caps⟩
theorem Pts.apart {W W' : World} {A : Option Addr} {ps : List (Int × Int)} {g : Nat} (h : Pts W W.heap.size A ps) (hfar : ∀ k, k ≠ g → W'.heap[k]? = W.heap[k]?) (hs : W.heap.size ≤ W'.heap.size) (hne : ∀ ad, A = some ad → ad.block ≠ g) : Pts W' W'.heap.size A ps := fun hp => by
 obtain ⟨ad, e, hb, hc⟩ := h hp
 have hn := hne ad e
 refine ⟨ad, e, by omega, fun k p hk => ?_⟩
 obtain ⟨c0, c1⟩ := hc k p hk
 exact ⟨(World.cell?_of_block (hfar _ (by rw [block_of_add]; exact hn))).trans c0, (World.cell?_of_block (hfar _ (by rw [block_of_add, block_of_add]; exact hn))).trans c1⟩
theorem fit_one {r : List (Int × Int)} (hs : Sound r) : Fit r [r] := by
 have he : edgs [r] = edg r := by unfold edgs; simp
 refine ⟨hs, fun q hq => by rw [List.mem_singleton.1 hq]; exact hs, by rw [he]; exact edg_nodup hs, fun e h => by rw [he]; exact h, fun e h => ?_, fun a ha b hb hab => ?_⟩
 ·rw [he] at *
  exact ⟨fun _ h2 => edg_way hs h h2, fun _ => h⟩
 ·rw [he] at ha hb
  obtain ⟨i, hi, rfl⟩ := mem_edg.1 ha
  obtain ⟨j, hj, rfl⟩ := mem_edg.1 hb
  have hij : i ≠ j := fun e => hab (by rw [e])
  obtain ⟨a1, a2, a3⟩ := hs.2.2 i j (by rw [Nat.mod_eq_of_lt hi, Nat.mod_eq_of_lt hj]; exact hij)
  by_cases hadj : adj r.length i j
  ·rw [a2 hadj]
   refine ⟨by decide, fun _ => ?_, fun h => absurd h (by decide)⟩
   have hnx : ∀ k m, k < r.length → m < r.length → (k + 1) % r.length = m % r.length → nx r (k + 1) = nx r m := fun k m _ _ h => by rw [← nx_mod r (k + 1), h, nx_mod]
   rcases hadj with h | h
   ·exact .inr (.inr (.inl (hnx i j hi hj h)))
   ·exact .inr (.inl (hnx j i hj hi h).symm)
  ·rw [a3 hadj]
   exact ⟨by decide, fun h => absurd h (by decide), fun h => absurd h (by decide)⟩
theorem one_checks {r : List (Int × Int)} {id : Int} {s : ByteArray} {A : Option Addr} {c : Nat} (hn : NormP r) (hi : idB id = true) (ho : OwnOk s) : CheckP r [⟨⟨id, r, s⟩, A, c⟩] := by
 have hF : Fit r (rings [(⟨⟨id, r, s⟩, A, c⟩ : PV)]) := fit_one (norm_sound hn)
 obtain ⟨t1, t2⟩ := hF.tries
 obtain ⟨h1, h2, h3⟩ := normP_small hn
 have hid : 0 < id := by unfold idB at hi; rw [Bool.and_eq_true, decide_eq_true_iff, decide_eq_true_iff] at hi; omega
 have hc1 : cornN r [(⟨⟨id, r, s⟩, A, c⟩ : PV)] 1 = r.length + r.length := rfl
 refine ⟨⟨fun k hk x hx => ?_, Nat.le_refl _, (show 1 ≤ 64 by decide), by show cornN r [_] 1 ≤ 1024; rw [hc1]; omega⟩, hn, fun x hx => by rw [List.mem_singleton.1 hx]; exact hn, ?_, fun i hi e he => ?_, fun i j hij hj a b ha hb => ?_, hF.out⟩
 ·obtain rfl : k = 0 := by simpa using hk
  obtain rfl : (⟨⟨id, r, s⟩, A, c⟩ : PV) = x := by simpa using hx
  exact ⟨hi, hid, ho, by show cornN r [_] 1 ≤ 1024; rw [hc1]; omega⟩
 ·show 0 + area r = area r
  omega
 ·obtain rfl : (edgs (rings [(⟨⟨id, r, s⟩, A, c⟩ : PV)]))[i] = e := by rw [List.getElem?_eq_getElem hi] at he; exact Option.some.inj he
  refine ⟨fun j hj hh => ?_, (t1 i hi).2⟩
  rw [List.getElem?_eq_getElem (by omega)] at hh
  exact (t1 i hi).1 j hj (Option.some.inj hh)
 ·obtain rfl : (edgs (rings [(⟨⟨id, r, s⟩, A, c⟩ : PV)]))[i] = a := by rw [List.getElem?_eq_getElem (by omega)] at ha; exact Option.some.inj ha
  obtain rfl : (edgs (rings [(⟨⟨id, r, s⟩, A, c⟩ : PV)]))[j] = b := by rw [List.getElem?_eq_getElem hj] at hb; exact Option.some.inj hb
  exact t2 i j hij hj
theorem gv_che0 : chE gvR = 0 := chE_zero.2 ⟨gv_ar, gv_sound⟩
theorem gv_nm : nmL gvR = gvR := by rw [nmL_eq gv_che0]; decide +kernel
theorem gv_norm : NormP gvR := ⟨gv_che0, by rw [← nmL_eq gv_che0, gv_nm]⟩
theorem gv_id : idB 1 = true := by decide
end Go.Proofs.YtoiamjglklgcdaaGreat

namespace Go.Proofs.YtoiamjglklgcdaaGreat
open Go.RowKit

theorem rows_apart {W : World} {b1 b2 : Nat} {T1 T2 : TypeId} {s1 s2 n1 n2 : Nat} {v1 v2 : Value} {x1 x2 : List Value} (h1 : W.ownsRow b1 T1 s1 v1 n1 x1) (h2 : W.ownsRow b2 T2 s2 v2 n2 x2) (hne : T1 ≠ T2) : v1.ownBlock = none ∨ v1.ownBlock ≠ v2.ownBlock := by
 rcases h1.2 with ⟨rfl, _⟩ | ⟨g1, c1, cur1, rfl, _, hg1, _⟩
 ·exact .inl rfl
 ·refine .inr fun e => ?_
  rcases h2.2 with ⟨rfl, _⟩ | ⟨g2, c2, cur2, rfl, _, hg2, _⟩
  ·cases e
  ·obtain rfl : g1 = g2 := Option.some.inj e
   rw [hg1] at hg2
   cases hg2
   exact hne rfl
theorem row_far_set {W : World} {B e sz n g : Nat} {v : Value} {xs : List Value} (h : W.ownsRow B e sz v n xs) (hne : v.ownBlock ≠ some g) (i : Nat) (u : Value) : (W.setCell ⟨g, i, none⟩ u).ownsRow B e sz v n xs := by
 refine ⟨h.1, h.2.imp id ?_⟩
 rintro ⟨k, cap, cur, rfl, hb, hh, hrest⟩
 exact ⟨k, cap, cur, rfl, hb, (Below.heap_setCell _ _ _ k (fun e' => hne (by simp only at e'; rw [e']; rfl))).trans hh, hrest⟩
theorem row_block {W : World} {B e sz n g : Nat} {v : Value} {xs : List Value} {cs : Array Value} {t : TypeId} (h : W.ownsRow B e sz v n xs) (hg : W.heap[g]? = some (Obj.cells cs t (0, 0))) (ht : t ≠ e) : v.ownBlock ≠ some g := fun e' => by
 rcases h.2 with ⟨rfl, _⟩ | ⟨k, cap, cur, rfl, _, hh, _⟩
 ·cases e'
 ·obtain rfl : k = g := Option.some.inj e'
  rw [hh] at hg
  cases hg
  exact ht rfl
def OwnRs (w : World) (l : List PV) (W : World) : Prop := ∀ x ∈ l, W.ownsRow w.heap.size 56 2 (.slice x.A x.par.ring.length x.cap) x.par.ring.length (flatP x.par.ring)
section
variable {w W W' : World} {l : List PV}
theorem OwnRs.on (h : OwnRs w l W) (hb : Below W.heap.size W W') : OwnRs w l W' := fun x hx => row_on (h x hx) hb
theorem OwnRs.set {g : Nat} {cs : Array Value} {t : TypeId} (h : OwnRs w l W) (hg : W.heap[g]? = some (Obj.cells cs t (0, 0))) (ht : t ≠ 56) (i : Nat) (u : Value) : OwnRs w l (W.setCell ⟨g, i, none⟩ u) := fun x hx => row_far_set (h x hx) (row_block (h x hx) hg ht) i u
theorem OwnRs.grow {T : TypeId} {b s n : Nat} {v : Value} {xs : List Value} (h : OwnRs w l W) (hv : W.ownsRow b T s v n xs) (ht : 56 ≠ T) (hg : W.grownBy W' v.ownBlock) : OwnRs w l W' := fun x hx => (h x hx).kept hg (rows_apart (h x hx) hv ht)
theorem OwnRs.alloc (h : OwnRs w l W) (o : Obj) : OwnRs w l (W.alloc o) := h.on ((Below.refl _ W).alloc (Nat.le_refl _) _)
end
theorem RowI.full {α : Type} {T : TypeId} {enc : α → List Value} {n : Nat} {w0 W : World} {A : Option Addr} {m c : Nat} {l : List α} (h : RowI w0 T n enc (.slice A m c) l W) : Items W W.heap.size A enc l ∧ NilOk A c ∧ l.length ≤ c := by
 obtain ⟨A', c', e, hi, hn⟩ := h.items
 obtain ⟨rfl, -, rfl⟩ := Value.slice.inj e
 exact ⟨hi, hn, h.cap⟩
theorem Row.whole {w0 W : World} {A : Option Addr} {m c : Nat} {ps : List (Int × Int)} (h : Row w0 (.slice A m c) ps W) : Pts W W.heap.size A ps ∧ NilOk A c ∧ ps.length ≤ c := by
 obtain ⟨A', c', e, hp, hn, hc⟩ := h.full
 obtain ⟨rfl, -, rfl⟩ := Value.slice.inj e
 exact ⟨hp, hn, hc⟩
theorem Row.base {w w1 W : World} {v : Value} {ps : List (Int × Int)} (h : Row w1 v ps W) (hb : Below w.heap.size w w1) : Row w v ps W :=
 ⟨Below.trans hb (h.1.mono hb.size), h.2.1, h.2.2.imp id (fun ⟨g, cap, cur, e, hg, r⟩ => ⟨g, cap, cur, e, Nat.le_trans hb.size hg, r⟩)⟩

end Go.Proofs.YtoiamjglklgcdaaGreat
