/- The library's sorting of parcels by their numbers. -/
import Derived.Test.YtfjfmieadedjoaaShelfS
import Derived.Test.YtfjfmieadedjoaaCutM
import Derived.Test.YtfjfmieadedjoaaPlanB
import Derived.Test.YtfjfmieadedjoaaCutC
namespace Go.Proofs.Ytfjfmieadedjoaa
open Go.RowKit Go.Sort Go.Shelf

instance : Inhabited PV := ⟨⟨⟨0, [], ⟨#[]⟩⟩, none, 0⟩⟩
end Go.Proofs.Ytfjfmieadedjoaa

namespace Go.Proofs.Ytfjfmieadedjoaa
open Go.RowKit

section
variable {α : Type} {T : TypeId} {enc : α → List Value} {n bytes : Nat} {w0 W W' : World} {v : Value} {l : List α}
end
structure Bn (w : World) (vo : Value) (o : List (Int × Int)) (v : Value) (L M : List PV) (H : List (Nat × Array Value × TypeId)) (W : World) : Prop where
 out : Row w vo o W
 row : RowI w 39 3 encV v L W
 rs : OwnRs w M W
 hold : Hold w H W
 far : ∀ e ∈ H, v.ownBlock ≠ some e.1
section
variable {w W W' : World} {vo v v' : Value} {o : List (Int × Int)} {L M : List PV} {H H' : List (Nat × Array Value × TypeId)}
theorem Bn.on (h : Bn w vo o v L M H W) (hb : Below W.heap.size W W') : Bn w vo o v L M H W' := ⟨h.out.on hb, h.row.on hb, h.rs.on hb, h.hold.on hb, h.far⟩
theorem Bn.drew (h : Bn w vo o v L M H W) : Bn w vo o v L M H W.drew := h.on ⟨rfl, rfl, rfl, Nat.le_refl _, fun _ _ => rfl⟩
theorem Bn.new (h : Bn w vo o v L M H W) (cs : Array Value) (t : TypeId) : Bn w vo o v L M ((W.heap.size, cs, t) :: H) (W.alloc (Obj.cells cs t (0, 0))) :=
 ⟨h.out.on ((Below.refl _ W).alloc (Nat.le_refl _) _), h.row.alloc _, h.rs.alloc _, h.hold.new cs t, fun e he => by
  rcases List.mem_cons.1 he with rfl | he
  ·exact h.row.row_ne (Nat.le_refl _)
  ·exact h.far e he⟩
theorem Bn.new' (h : Bn w vo o v L M H W) (cs : Array Value) (t : TypeId) {n : Nat} (hn : n = W.heap.size) : Bn w vo o v L M ((n, cs, t) :: H) (W.alloc (Obj.cells cs t (0, 0))) := by
 subst hn; exact h.new cs t
theorem Bn.sub (h : Bn w vo o v L M H W) (hs : H'.Sublist H) : Bn w vo o v L M H' W := ⟨h.out, h.row, h.rs, h.hold.sub hs, fun e he => h.far e (hs.subset he)⟩
theorem Bn.tail {e : Nat × Array Value × TypeId} (h : Bn w vo o v L M (e :: H) W) : Bn w vo o v L M H W := h.sub (List.sublist_cons_self e H)
theorem Bn.ring (h : Bn w vo o v L M H W) {w1 : World} {A : Option Addr} {n c : Nat} {r : List (Int × Int)} (hb : Below w.heap.size w w1) (hr : Row w1 (.slice A n c) r W) (x : PV) (hA : x.A = A) (hc : x.cap = c) (hx : x.par.ring = r) : Bn w vo o v L (M ++ [x]) H W := by
 refine ⟨h.out, h.row, fun y hy => ?_, h.hold, h.far⟩
 rcases List.mem_append.1 hy with hy | hy
 ·exact h.rs y hy
 ·obtain rfl := List.mem_singleton.1 hy
  have hr' := hr.base hb
  rw [hA, hc, hx]
  obtain ⟨A', c', e, -⟩ := hr'.pts
  obtain ⟨rfl, rfl, rfl⟩ := Value.slice.inj e
  exact hr'.2
theorem Bn.put {H1 H2 : List (Nat × Array Value × TypeId)} {g : Nat} {cs : Array Value} {t : TypeId} (h : Bn w vo o v L M (H1 ++ (g, cs, t) :: H2) W) (ht : t ≠ 28) (i : Nat) (x : Value) : Bn w vo o v L M (H1 ++ (g, cs.setIfInBounds i x, t) :: H2) (W.setCell ⟨g, i, none⟩ x) := by
 have hm : (g, cs, t) ∈ H1 ++ (g, cs, t) :: H2 := List.mem_append_right _ List.mem_cons_self
 have hg := (h.hold.2.1 _ hm).1
 have hp := Hold.put h.hold i x
 refine ⟨⟨hp.1, row_far_set h.out.2 (row_block h.out.2 hg ht) i x⟩, ⟨hp.1, row_far_set h.row.2 (h.far _ hm) i x⟩, h.rs.set hg ht i x, hp, fun e he => ?_⟩
 rcases List.mem_append.1 he with he | he
 ·exact h.far e (List.mem_append_left _ he)
 ·rcases List.mem_cons.1 he with rfl | he
  ·exact h.far (g, cs, t) hm
  ·exact h.far e (List.mem_append_right _ (List.mem_cons_of_mem _ he))
theorem Bn.set {g : Nat} {cs : Array Value} {t : TypeId} (h : Bn w vo o v L M ((g, cs, t) :: H) W) (ht : t ≠ 28) (i : Nat) (x : Value) : Bn w vo o v L M ((g, cs.setIfInBounds i x, t) :: H) (W.setCell ⟨g, i, none⟩ x) := Bn.put (H1 := []) h ht i x
theorem Bn.set2 {e e2 : Nat × Array Value × TypeId} {g : Nat} {cs : Array Value} {t : TypeId} (h : Bn w vo o v L M (e :: e2 :: (g, cs, t) :: H) W) (ht : t ≠ 28) (i : Nat) (x : Value) : Bn w vo o v L M (e :: e2 :: (g, cs.setIfInBounds i x, t) :: H) (W.setCell ⟨g, i, none⟩ x) := Bn.put (H1 := [e, e2]) h ht i x
theorem Bn.more {x : PV} {ob : Obj} (h : Bn w vo o v L M H W) (h1 : RowI w 39 3 encV v' (L ++ [x]) W') (hg : (W.alloc ob).grownBy W' v.ownBlock) (ha : v'.ownBlock = v.ownBlock ∨ v'.ownBlock = some (W.heap.size + 1)) : Bn w vo o v' (L ++ [x]) M H W' := by
 have hA := h.row.alloc ob
 have ho := h.out.on ((Below.refl _ W).alloc (Nat.le_refl _) ob)
 refine ⟨⟨h1.1, ho.2.kept hg (rows_apart ho.2 hA.2 (show (28 : Nat) ≠ 39 by decide))⟩, h1, (h.rs.alloc ob).grow hA.2 (show (28 : Nat) ≠ 39 by decide) hg, (h.hold.alloc ob).grow h1.1 hg (fun e he => h.far e he), fun e he => ?_⟩
 rcases ha with ha | ha
 ·rw [ha]; exact h.far e he
 ·rw [ha]
  intro e'
  have := blk_lt (h.hold.2.1 e he).1
  have := Option.some.inj e'
  omega
end
theorem Bn.pts {w W : World} {vo v : Value} {o : List (Int × Int)} {L M : List PV} {H : List (Nat × Array Value × TypeId)} (h : Bn w vo o v L M H W) {x : PV} (hx : x ∈ M) : Pts W W.heap.size x.A x.par.ring ∧ NilOk x.A x.cap ∧ x.par.ring.length ≤ x.cap :=
 (show Row w (.slice x.A x.par.ring.length x.cap) x.par.ring W from ⟨h.hold.1, h.rs x hx⟩).whole
theorem Row.len {w W : World} {A : Option Addr} {n c : Nat} {r : List (Int × Int)} (h : Row w (.slice A n c) r W) : n = r.length := by
 obtain ⟨A', c', e, -⟩ := h.pts
 exact (Value.slice.inj e).2.1
end Go.Proofs.Ytfjfmieadedjoaa

namespace Go.Proofs.Ytfjfmieadedjoaa
open Go.RowKit

end Go.Proofs.Ytfjfmieadedjoaa
