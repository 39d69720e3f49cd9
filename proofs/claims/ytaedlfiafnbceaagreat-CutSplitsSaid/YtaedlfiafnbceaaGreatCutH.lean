/- The library's sorting of parcels by their numbers. -/
import Derived.Test.YtaedlfiafnbceaaGreatShelfS
import Derived.Test.YtaedlfiafnbceaaGreatCutM
import Derived.Test.YtaedlfiafnbceaaGreatPlanB
import Derived.Test.YtaedlfiafnbceaaGreatCutC
namespace Go.Proofs.YtaedlfiafnbceaaGreat
open Go.RowKit Go.Sort Go.Shelf

def cfV (x y : PV) : Int := sg1 x.par.id y.par.id
theorem ltV (x y : PV) : ltOf cfV x y = decide (x.par.id < y.par.id) := by
 unfold ltOf cfV sg1
 by_cases h1 : x.par.id < y.par.id
 ·simp [h1]
 ·by_cases h2 : y.par.id < x.par.id <;> simp [h1, h2]
theorem swoV : SWO (ltOf cfV) where
 irrefl x := by rw [ltV]; simp
 trans x y z h1 h2 := by rw [ltV] at *; simp at *; omega
 ntrans x y z h1 h2 := by rw [ltV] at *; simp at *; omega
set_option maxHeartbeats 1000000 in
theorem byID_any (x y : PV) (W : World) : Calls Tryz.prog 60 #[.agg (encV x).toArray, .agg (encV y).toArray] W fun e w' => e = .returned (.int .i64 (cfV x y)) ∧ ∃ q os', w' = grow (W.drewN q) os' := by
 have HC := Lib.hid (fun W => compare_int x.par.id y.par.id W)
 have HV : Hid (cfV x y = sg1 x.par.id y.par.id) := rfl
 generalize cfV x y = r at *
 generalize sg1 x.par.id y.par.id = s at *
 unfold encV
 go_enter Tryz.func60, Tryz.ntmps60
 go_wp2_with (go_at_call 61; go_must (refine (HC.out _).mono ?_; rintro e w' ⟨rfl, rfl⟩))
 go_ret
 exact ⟨by rw [HV.out]; rfl, 0, _, by rw [alloc_eq_grow, alloc_eq_grow, grow_grow]; rfl⟩
instance : Inhabited PV := ⟨⟨⟨0, [], ⟨#[]⟩⟩, none, 0⟩⟩
theorem flatV_get (d : Array PV) (j : Nat) (hj : j < d.size * 3) : (flatK encV 3 d)[j]! = (encV d[j / 3]!)[j % 3]! := get_flatK encV 3 d j hj
theorem flatV_list (d : Array PV) (j : Nat) (hj : j < d.size * 3) : (d.toList.flatMap encV)[j]? = some (flatK encV 3 d)[j]! := by
 have hk : j / 3 < d.size := by omega
 have h := flat_get (enc := encV) (n := 3) (fun _ => rfl) d.toList (j / 3) d[j / 3] (j % 3) (by rw [Array.getElem?_toList, Array.getElem?_eq_getElem hk]) (by omega)
 rw [show j / 3 * 3 + j % 3 = j by omega] at h
 rw [h, flatV_get d j hj, getElem!_pos d (j / 3) hk]
 have h3 : (encV d[j / 3]).length = 3 := rfl
 rw [List.getElem?_eq_getElem (by rw [h3]; omega)]
 congr 1
 rw [getElem!_pos]
theorem mapBlock_at {w : World} {g : Nat} {f : Array Value → Array Value} {c : Array Value} {e : TypeId} {fr : Nat × Nat} (h : w.heap[g]? = some (.cells c e fr)) : (mapBlock w g f).heap[g]? = some (.cells (f c) e fr) := by
 unfold mapBlock
 simp only [Array.getElem?_modify, if_true, h, Option.map_some]
 rfl
theorem take_flat {cur : Array Value} {l : List PV} {d : Array PV} {cap : Nat} (hl : d.size = l.length) (hc : l.length ≤ cap) (hs : cur.size = cap * 3) : ((putCells id 0 (flatK encV 3 d) cur).toList.take (l.length * 3)) = d.toList.flatMap encV := by
 have hfl : (d.toList.flatMap encV).length = d.size * 3 := by rw [flat_len (enc := encV) (n := 3) (fun _ => rfl), Array.length_toList]
 apply List.ext_getElem?
 intro j
 by_cases hj : j < l.length * 3
 ·rw [List.getElem?_take_of_lt hj, Array.getElem?_toList, flatV_list d j (by omega)]
  have hjc : j < cur.size := by rw [hs]; omega
  simp only [putCells, Array.getElem?_mapIdx, Array.getElem?_eq_getElem hjc, Option.map_some, size_flatK]
  rw [if_pos ⟨Nat.zero_le _, by omega⟩, Nat.sub_zero]
  rfl
 ·rw [List.getElem?_eq_none (by rw [List.length_take]; omega), List.getElem?_eq_none (by omega)]
set_option maxHeartbeats 1000000 in
theorem sortV_any (w W : World) (A : Option Addr) (n cap : Nat) (l : List PV) (h0 : 0 < l.length) (hln : l.length ≤ 1000000) (hr : RowI w 37 3 encV (.slice A n cap) l W) :
  Calls Tryz.prog 59 #[.slice A n cap, .func (.func 60) #[] #[]] W fun e W' => e = .returned (.tuple #[]) ∧ ∃ l' : List PV, l'.Perm l ∧ l'.Pairwise (fun a b => a.par.id ≤ b.par.id) ∧ RowI w 37 3 encV (.slice A n cap) l' W' ∧ W.heap.size ≤ W'.heap.size ∧ ∀ k, k < W.heap.size → (∀ ad, A = some ad → ad.block ≠ k) → W'.heap[k]? = W.heap[k]? := by
 obtain ⟨hB, hl, ⟨hv, hz⟩ | ⟨g, cap', cur, hv, hb, hg, hn, hc, hs, ht⟩⟩ := hr
 ·omega
 ·obtain ⟨rfl, rfl, rfl⟩ := Value.slice.inj hv
  have hH : HoldsK encV 3 W g 0 l.toArray := fun j hj => by
   rw [size_flatK] at hj
   have hj' : j < l.length * 3 := by simpa using hj
   rw [Nat.zero_add]
   refine ⟨?_, blk_frozen hg j⟩
   rw [blk_cell hg j, ← Array.getElem?_toList]
   have h2 : (cur.toList.take (l.length * 3))[j]? = cur.toList[j]? := List.getElem?_take_of_lt (by omega)
   rw [← h2, ht]
   have := flatV_list l.toArray j hj
   exact this
  have hlt := blk_lt hg
  have eg : ∀ args w, (callFunc 60 args).run Tryz.prog w = .ok (.enter 60 args) w := enters_of Tryz.func60 (by kernel_rfl) rfl
  have hcon := AnyQ.slices_SortFunc Tryz.sortP 3 Tryz.isAgg37 Tryz.sizeOf37 encV (fun _ => rfl) (fun x v hv => by simp [encV] at hv; rcases hv with rfl | rfl | rfl <;> rfl) cfV swoV 60 #[] g 0 cap l.toArray W eg (fun _ _ _ _ x y => byID_any x y _) hH hlt (by simp; omega)
  refine hcon.mono ?_
  rintro e W' ⟨h1, d', m, os, hp, hsrt, rfl⟩
  have hsz : d'.size = l.length := by rw [hp.1]; simp
  have hpl : d'.toList.Perm l := by
   have := hp.2.2
   rw [show d'.extract 0 l.toArray.size = d' by rw [← hp.1]; exact Array.extract_size, show l.toArray.extract 0 l.toArray.size = l.toArray from Array.extract_size] at this
   simpa using this
  refine ⟨h1, d'.toList, hpl, ?_, ⟨⟨hB.os, hB.tape, hB.output, by show _ ≤ (grow _ _).heap.size; rw [size_grow]; unfold putRowK; rw [size_putRow]; exact Nat.le_trans hB.size (Nat.le_add_right _ _), fun k hk => ?_⟩, ?_, .inr ⟨g, cap, putCells id 0 (flatK encV 3 d') cur, ?_, hb, ?_, ?_, hc, ?_, ?_⟩⟩, ?_, ?_⟩
  ·refine List.pairwise_iff_getElem.2 fun i j hi hj hij => ?_
   have := hsrt i j (Nat.zero_le _) hij (by simp at hj ⊢; omega)
   rw [ltV] at this
   simp only [Array.length_toList] at hi hj
   rw [getElem!_pos d' i hi, getElem!_pos d' j hj] at this
   simp only [Array.getElem_toList]
   have := of_decide_eq_false this
   omega
  ·have hkW : k < W.heap.size := Nat.lt_of_lt_of_le hk hB.size
   show (grow _ _).heap[k]? = _
   rw [heap_grow_old _ _ (by unfold putRowK; rw [size_putRow]; exact hkW)]
   have hne : g ≠ k := by omega
   show (W.heap.modify g _)[k]? = _
   rw [Array.getElem?_modify, if_neg hne]
   exact hB.block k hk
  ·rw [flat_len (enc := encV) (n := 3) (fun _ => rfl)]
  ·simp [hsz]
  ·show (grow _ _).heap[g]? = _
   rw [heap_grow_old _ _ (by unfold putRowK; rw [size_putRow]; exact hlt)]
   exact mapBlock_at hg
  ·rw [Array.length_toList, hsz]; exact hn
  ·simp [putCells, hs]
  ·rw [Array.length_toList, hsz]
   exact take_flat hsz hn hs
  ·show _ ≤ (grow _ _).heap.size
   rw [size_grow]; unfold putRowK; rw [size_putRow]; exact Nat.le_add_right _ _
  ·intro k hk hne
   show (grow _ _).heap[k]? = _
   rw [heap_grow_old _ _ (by unfold putRowK; rw [size_putRow]; exact hk)]
   have hne : g ≠ k := hne _ rfl
   show (W.heap.modify g _)[k]? = _
   rw [Array.getElem?_modify, if_neg hne]
end Go.Proofs.YtaedlfiafnbceaaGreat

namespace Go.Proofs.YtaedlfiafnbceaaGreat
open Go.RowKit

section
variable {α : Type} {T : TypeId} {enc : α → List Value} {n bytes : Nat} {w0 W W' : World} {v : Value} {l : List α}
theorem append_itemC (K : Kind T enc n bytes) {TS : TypeId} (hT : Tryz.prog.underlying TS = some (.slice T)) (HR : RowI w0 T n enc v l W) (x : α) (t' : TypeId) {cs : Array Value} (hcs : cs.toList = enc x)
  (hn : l.length + 1 ≤ maxLen) (hb : (l.length + 1) * bytes ≤ 140737488355328)
  {ops : Array Oper} {rest : List Oper} {o : Oper} {a : Act} {Q : Exit → Act → World → Prop} (hgd : o.guard = none) (s y : Operand)
  (ho : o.op = .call { callee := .builtin .append, args := #[s, y], argTypes := #[TS, TS] })
  (hs : a.eval s = v) (c : Nat) (hx : a.eval y = .slice (some ⟨W.heap.size, 0, none⟩) 1 c)
  (h : ∀ v' w', RowI w0 T n enc v' (l ++ [x]) w' → (W.alloc (Obj.cells cs t' (0, 0))).grownBy w' v.ownBlock → (v'.ownBlock = v.ownBlock ∨ v'.ownBlock = some (W.heap.size + 1)) → wpList Tryz.prog ops Q rest (a.put o.dst v') w') :
  wpList Tryz.prog ops Q (o :: rest) a (W.alloc (Obj.cells cs t' (0, 0))) := by
 obtain ⟨i0, z, hi, hz0, hz1, hz2, hz3⟩ := K.info
 have hA := HR.alloc (Obj.cells cs t' (0, 0))
 have hnew := heap_alloc_new W (Obj.cells cs t' (0, 0))
 refine wpList_append_own_at _ hgd s y TS ho w0.heap.size T i0 z n bytes hT hi hz0 hz1 hz2 hz3 K.pos v l.length (l.flatMap enc) hs hA.2 ⟨W.heap.size, 0, none⟩ 1 c (enc x) hx (by rw [K.len, Nat.one_mul]) ?_ (K.one x) hn hb hA.1.size ?_
 ·intro j u hu
  rw [add_off, blk_cell hnew, ← hu, ← hcs, Array.getElem?_toList]
 ·intro v' w' hown hgrow _ hat
  refine h v' w' ⟨grownB hA.1 (Nat.le_refl _) hgrow (fun k hk => (hA.2.lt k hk).1), ?_⟩ hgrow (by rw [World.size_alloc] at hat; exact hat)
  rw [List.length_append, List.flatMap_append, List.flatMap_cons, List.flatMap_nil, List.append_nil]
  exact hown
end
structure Bn (w : World) (vo : Value) (o : List (Int × Int)) (v : Value) (L M : List PV) (H : List (Nat × Array Value × TypeId)) (W : World) : Prop where
 out : Row w vo o W
 row : RowI w 37 3 encV v L W
 rs : OwnRs w M W
 hold : Hold w H W
 far : ∀ e ∈ H, v.ownBlock ≠ some e.1
section
variable {w W W' : World} {vo v v' : Value} {o : List (Int × Int)} {L M : List PV} {H H' : List (Nat × Array Value × TypeId)}
theorem Bn.on (h : Bn w vo o v L M H W) (hb : Below W.heap.size W W') : Bn w vo o v L M H W' := ⟨h.out.on hb, h.row.on hb, h.rs.on hb, h.hold.on hb, h.far⟩
theorem Bn.drew (h : Bn w vo o v L M H W) : Bn w vo o v L M H W.drew := h.on ⟨rfl, rfl, rfl, Nat.le_refl _, fun _ _ => rfl⟩
theorem Bn.new (h : Bn w vo o v L M H W) (cs : Array Value) (t : TypeId) : Bn w vo o v L M ((W.heap.size, cs, t) :: H) (W.alloc (Obj.cells cs t (0, 0))) :=
 ⟨h.out.on ((Below.refl _ W).alloc (Nat.le_refl _) _), h.row.alloc _, h.rs.alloc _, h.hold.new cs t, fun e he => by
  rcases List.mem_cons.1 he with rfl | he
  ·exact h.row.row_ne (Nat.le_refl _)
  ·exact h.far e he⟩
theorem Bn.new' (h : Bn w vo o v L M H W) (cs : Array Value) (t : TypeId) {n : Nat} (hn : n = W.heap.size) : Bn w vo o v L M ((n, cs, t) :: H) (W.alloc (Obj.cells cs t (0, 0))) := by
 subst hn; exact h.new cs t
theorem Bn.sub (h : Bn w vo o v L M H W) (hs : H'.Sublist H) : Bn w vo o v L M H' W := ⟨h.out, h.row, h.rs, h.hold.sub hs, fun e he => h.far e (hs.subset he)⟩
theorem Bn.tail {e : Nat × Array Value × TypeId} (h : Bn w vo o v L M (e :: H) W) : Bn w vo o v L M H W := h.sub (List.sublist_cons_self e H)
theorem Bn.ring (h : Bn w vo o v L M H W) {w1 : World} {A : Option Addr} {n c : Nat} {r : List (Int × Int)} (hb : Below w.heap.size w w1) (hr : Row w1 (.slice A n c) r W) (x : PV) (hA : x.A = A) (hc : x.cap = c) (hx : x.par.ring = r) : Bn w vo o v L (M ++ [x]) H W := by
 refine ⟨h.out, h.row, fun y hy => ?_, h.hold, h.far⟩
 rcases List.mem_append.1 hy with hy | hy
 ·exact h.rs y hy
 ·obtain rfl := List.mem_singleton.1 hy
  have hr' := hr.base hb
  rw [hA, hc, hx]
  obtain ⟨A', c', e, -⟩ := hr'.pts
  obtain ⟨rfl, rfl, rfl⟩ := Value.slice.inj e
  exact hr'.2
theorem Bn.put {H1 H2 : List (Nat × Array Value × TypeId)} {g : Nat} {cs : Array Value} {t : TypeId} (h : Bn w vo o v L M (H1 ++ (g, cs, t) :: H2) W) (ht : t ≠ 35) (i : Nat) (x : Value) : Bn w vo o v L M (H1 ++ (g, cs.setIfInBounds i x, t) :: H2) (W.setCell ⟨g, i, none⟩ x) := by
 have hm : (g, cs, t) ∈ H1 ++ (g, cs, t) :: H2 := List.mem_append_right _ List.mem_cons_self
 have hg := (h.hold.2.1 _ hm).1
 have hp := Hold.put h.hold i x
 refine ⟨⟨hp.1, row_far_set h.out.2 (row_block h.out.2 hg ht) i x⟩, ⟨hp.1, row_far_set h.row.2 (h.far _ hm) i x⟩, h.rs.set hg ht i x, hp, fun e he => ?_⟩
 rcases List.mem_append.1 he with he | he
 ·exact h.far e (List.mem_append_left _ he)
 ·rcases List.mem_cons.1 he with rfl | he
  ·exact h.far (g, cs, t) hm
  ·exact h.far e (List.mem_append_right _ (List.mem_cons_of_mem _ he))
theorem Bn.set {g : Nat} {cs : Array Value} {t : TypeId} (h : Bn w vo o v L M ((g, cs, t) :: H) W) (ht : t ≠ 35) (i : Nat) (x : Value) : Bn w vo o v L M ((g, cs.setIfInBounds i x, t) :: H) (W.setCell ⟨g, i, none⟩ x) := Bn.put (H1 := []) h ht i x
theorem Bn.set1 {e : Nat × Array Value × TypeId} {g : Nat} {cs : Array Value} {t : TypeId} (h : Bn w vo o v L M (e :: (g, cs, t) :: H) W) (ht : t ≠ 35) (i : Nat) (x : Value) : Bn w vo o v L M (e :: (g, cs.setIfInBounds i x, t) :: H) (W.setCell ⟨g, i, none⟩ x) := Bn.put (H1 := [e]) h ht i x
theorem Bn.set2 {e e2 : Nat × Array Value × TypeId} {g : Nat} {cs : Array Value} {t : TypeId} (h : Bn w vo o v L M (e :: e2 :: (g, cs, t) :: H) W) (ht : t ≠ 35) (i : Nat) (x : Value) : Bn w vo o v L M (e :: e2 :: (g, cs.setIfInBounds i x, t) :: H) (W.setCell ⟨g, i, none⟩ x) := Bn.put (H1 := [e, e2]) h ht i x
theorem Bn.more {x : PV} {ob : Obj} (h : Bn w vo o v L M H W) (h1 : RowI w 37 3 encV v' (L ++ [x]) W') (hg : (W.alloc ob).grownBy W' v.ownBlock) (ha : v'.ownBlock = v.ownBlock ∨ v'.ownBlock = some (W.heap.size + 1)) : Bn w vo o v' (L ++ [x]) M H W' := by
 have hA := h.row.alloc ob
 have ho := h.out.on ((Below.refl _ W).alloc (Nat.le_refl _) ob)
 refine ⟨⟨h1.1, ho.2.kept hg (rows_apart ho.2 hA.2 (show (35 : Nat) ≠ 37 by decide))⟩, h1, (h.rs.alloc ob).grow hA.2 (show (35 : Nat) ≠ 37 by decide) hg, (h.hold.alloc ob).grow h1.1 hg (fun e he => h.far e he), fun e he => ?_⟩
 rcases ha with ha | ha
 ·rw [ha]; exact h.far e he
 ·rw [ha]
  intro e'
  have := blk_lt (h.hold.2.1 e he).1
  have := Option.some.inj e'
  omega
end
theorem Bn.pts {w W : World} {vo v : Value} {o : List (Int × Int)} {L M : List PV} {H : List (Nat × Array Value × TypeId)} (h : Bn w vo o v L M H W) {x : PV} (hx : x ∈ M) : Pts W W.heap.size x.A x.par.ring ∧ NilOk x.A x.cap ∧ x.par.ring.length ≤ x.cap :=
 (show Row w (.slice x.A x.par.ring.length x.cap) x.par.ring W from ⟨h.hold.1, h.rs x hx⟩).whole
theorem Bn.less {w W : World} {vo v : Value} {o : List (Int × Int)} {L M M' : List PV} {H : List (Nat × Array Value × TypeId)} (h : Bn w vo o v L M H W) (hm : ∀ x ∈ M', x ∈ M) : Bn w vo o v L M' H W := ⟨h.out, h.row, fun x hx => h.rs x (hm x hx), h.hold, h.far⟩
theorem owns_kept {W W' : World} {B e s n : Nat} {v : Value} {xs : List Value} (h : W.ownsRow B e s v n xs) (hk : ∀ g, v.ownBlock = some g → W'.heap[g]? = W.heap[g]?) : W'.ownsRow B e s v n xs := by
 refine ⟨h.1, ?_⟩
 rcases h.2 with h0 | ⟨g, cap, cur, rfl, hg, hh, hrest⟩
 ·exact .inl h0
 ·exact .inr ⟨g, cap, cur, rfl, hg, (hk g rfl).trans hh, hrest⟩
theorem Bn.sorted {w W W' : World} {vo : Value} {A : Option Addr} {n c : Nat} {o : List (Int × Int)} {L l' M : List PV} {H : List (Nat × Array Value × TypeId)} (h : Bn w vo o (.slice A n c) L M H W) (h1 : RowI w 37 3 encV (.slice A n c) l' W') (hoth : ∀ k, k < W.heap.size → (∀ ad, A = some ad → ad.block ≠ k) → W'.heap[k]? = W.heap[k]?) : Bn w vo o (.slice A n c) l' M H W' := by
 have hne : ∀ g, (Value.slice A n c).ownBlock ≠ some g → ∀ ad, A = some ad → ad.block ≠ g := fun g hg ad e e' => hg (by subst e; show some ad.block = _; rw [e'])
 have hrow : ∀ {v2 : Value} {m s : Nat} {xs : List Value}, W.ownsRow w.heap.size 35 s v2 m xs → W'.ownsRow w.heap.size 35 s v2 m xs := fun {v2 m s xs} h2 => owns_kept h2 fun g hg => hoth g (h2.lt g hg).2 (hne g fun e => by
  rcases rows_apart h2 h.row.2 (show (35 : Nat) ≠ 37 by decide) with h3 | h3
  ·rw [h3] at hg; cases hg
  ·exact h3 (hg.trans e.symm))
 refine ⟨⟨h1.1, hrow h.out.2⟩, h1, fun x hx => hrow (h.rs x hx), ⟨h1.1, fun e he => ⟨(hoth e.1 (blk_lt (h.hold.2.1 e he).1) (hne _ (h.far e he))).trans (h.hold.2.1 e he).1, (h.hold.2.1 e he).2⟩, h.hold.2.2⟩, h.far⟩
theorem Row.len {w W : World} {A : Option Addr} {n c : Nat} {r : List (Int × Int)} (h : Row w (.slice A n c) r W) : n = r.length := by
 obtain ⟨A', c', e, -⟩ := h.pts
 exact (Value.slice.inj e).2.1
end Go.Proofs.YtaedlfiafnbceaaGreat

namespace Go.Proofs.YtaedlfiafnbceaaGreat
open Go.RowKit

theorem rev_pF {path : List (Int × Int)} (h : 1 ≤ path.length) : pF path.reverse = pL path ∧ pL path.reverse = pF path := by
 have e : path.reverse.length = path.length := List.length_reverse
 unfold pF pL
 constructor
 ·rw [nx_lt (by omega), nx_lt (by omega), List.getElem_reverse]
  congr 1
 ·rw [e, nx_lt (by omega), nx_lt (by omega), List.getElem_reverse]
  congr 1
  omega
theorem cutQ_take (f : List (Int × Int) → List (Int × Int)) {l : List PV} {k : Nat} (hk : k < l.length) (id : Int) (path : List (Int × Int)) (fresh : Int) : cutQ f ((l.take (k + 1)).map PV.par) id path fresh = cutQ f ((l.take k).map PV.par) id path fresh ++ cutPar f id path fresh l[k].par := by
 unfold cutQ
 rw [List.take_succ_eq_append_getElem hk, List.map_append, List.flatMap_append]
 simp
theorem cutPar_len (f : List (Int × Int) → List (Int × Int)) (id : Int) (path : List (Int × Int)) (fresh : Int) (x : Par) : (cutPar f id path fresh x).length ≤ 2 := by unfold cutPar; split <;> simp
theorem cutQ_len (f : List (Int × Int) → List (Int × Int)) (id : Int) (path : List (Int × Int)) (fresh : Int) : ∀ l : List Par, l.length ≤ (cutQ f l id path fresh).length ∧ (cutQ f l id path fresh).length ≤ 2 * l.length
 |[] => by simp [cutQ]
 |x :: l => by
  have ih := cutQ_len f id path fresh l
  have h := cutPar_len f id path fresh x
  have h1 : 1 ≤ (cutPar f id path fresh x).length := by unfold cutPar; split <;> simp
  unfold cutQ at ih ⊢
  rw [List.flatMap_cons, List.length_append, List.length_cons]
  omega
def OnBoth (r path : List (Int × Int)) : Prop := onRim r (pF path) ∧ onRim r (pL path)
theorem putE_mem {r path : List (Int × Int)} (hs : Sound r) (h : OnBoth r path) : pF path ∈ putE r path ∧ pL path ∈ putE r path := by
 have h2 : onRim (putC r (pF path)) (pL path) := by
  have e := (putC_sound hs (pF path)).2.2 (pL path)
  have hz : side r (pL path) = 0 := by unfold side; rw [if_pos h.2]
  rw [hz] at e
  unfold side at e
  split at e
  ·assumption
  ·split at e <;> cases e
 exact ⟨putC_old (putC_new h.1), putC_new h2⟩
theorem putE_len (r path : List (Int × Int)) : r.length ≤ (putE r path).length ∧ (putE r path).length ≤ r.length + 2 := by
 have h1 := putC_len r (pF path)
 have h2 := putC_len (putC r (pF path)) (pL path)
 unfold putE; omega
set_option maxRecDepth 100000 in
set_option maxHeartbeats 4000000 in
theorem divided_any (o : List (Int × Int)) (Ao : Option Addr) (co : Nat) (l : List PV) (Ap : Option Addr) (cp : Nat) (id : Int) (path : List (Int × Int)) (A : Option Addr) (ca : Nat) (fresh : Int)
  (hl : l.length ≤ 64) (h0 : 1 ≤ l.length) (hso : Sound o) (hgo : gdL o = true) (hno : o.length ≤ 128) (hsr : ∀ x ∈ l, Sound x.par.ring ∧ gdL x.par.ring = true ∧ x.par.ring.length ≤ 128)
  (hp1 : 2 ≤ path.length) (hp2 : path.length ≤ 128) (hpg : gdL path = true) (hne : pF path ≠ pL path) (hob : ∀ x ∈ l, x.par.id = id → OnBoth x.par.ring path) (hnA : NilOk A ca) (w : World) (h : PlanAt w o Ao co l Ap cp) (hq : Pts w w.heap.size A path) :
  Calls Tryz.prog 37 #[.agg #[.slice Ao o.length co, .slice Ap l.length cp], .int .i64 id, .slice A path.length ca, .int .i64 fresh] w fun e w' => ∃ A1 c1 Ap1 cp1 l', e = .returned (.agg #[.slice A1 (putE o path).length c1, .slice Ap1 l'.length cp1]) ∧ (l'.map PV.par).Perm (cutQ nmL (l.map PV.par) id path fresh) ∧ (l'.map PV.par).Pairwise (fun a b => a.id ≤ b.id) ∧ Row w (.slice A1 (putE o path).length c1) (putE o path) w' ∧ RowI w 37 3 encV (.slice Ap1 l'.length cp1) l' w' ∧ OwnRs w l' w' := by
 obtain ⟨a, ha⟩ : ∃ a, pF path = a := ⟨_, rfl⟩
 obtain ⟨b, hb⟩ : ∃ b, pL path = b := ⟨_, rfl⟩
 have hga : Gd a := by rw [← ha]; exact nx_gd hpg (by omega) 0
 have hgb : Gd b := by rw [← hb]; exact nx_gd hpg (by omega) _
 have hpe : ∀ r, putE r path = putC (putC r a) b := fun r => by unfold putE; rw [ha, hb]
 have HE := Lib.hid (fun K W (h : Hold w K W) => ends_any path A ca a b ha hb (by omega) (by omega) W (hq.on h.1))
 have HWO := Lib.hid (fun K W (hh : Hold w K W) => withCorners_any o Ao co a b hso hgo hga hgb (by omega) h.nil h.caps.1 W (h.out.on hh.1))
 rw [← hpe o] at HWO
 have HPR := Lib.hid (fun K W (hh : Hold w K W) => h.prs.on hh.1)
 have HWC := Lib.hid (fun x (hx : x ∈ l) K W (hh : Hold w K W) => withCorners_any x.par.ring x.A x.cap a b (hsr x hx).1 (hsr x hx).2.1 hga hgb (by have := (hsr x hx).2.2; omega) (h.prs.2 x hx).2.1 (h.caps.2 x hx) W ((h.prs.2 x hx).1.on hh.1))
 simp only [← hpe] at HWC
 have HC1 := Lib.hid (fun x (hx : x ∈ l) (hi : x.par.id = id) B cb K W (hh : Hold w K W) (hcb : (putE x.par.ring path).length ≤ cb) (hr : Pts W W.heap.size B (putE x.par.ring path)) => closed_any path (putE x.par.ring path) A B ca cb (putE_mem (hsr x hx).1 (hob x hx hi)).1 (putE_mem (hsr x hx).1 (hob x hx hi)).2 hne (by omega) (by omega) (by have := (hsr x hx).2.2; have := putE_len x.par.ring path; omega) hnA hcb W (hq.on hh.1) hr)
 have HC2 := Lib.hid (fun x (hx : x ∈ l) (hi : x.par.id = id) A' ca' B cb W (hn' : NilOk A' ca') (hcb : (putE x.par.ring path).length ≤ cb) (hq' : Pts W W.heap.size A' path.reverse) (hr : Pts W W.heap.size B (putE x.par.ring path)) => closed_any path.reverse (putE x.par.ring path) A' B ca' cb (by rw [(rev_pF (path := path) (by omega)).1]; exact (putE_mem (hsr x hx).1 (hob x hx hi)).2) (by rw [(rev_pF (path := path) (by omega)).2]; exact (putE_mem (hsr x hx).1 (hob x hx hi)).1) (by rw [(rev_pF (path := path) (by omega)).1, (rev_pF (path := path) (by omega)).2]; exact fun e => hne e.symm) (by rw [List.length_reverse]; omega) (by rw [List.length_reverse]; omega) (by have := (hsr x hx).2.2; have := putE_len x.par.ring path; omega) hn' hcb W hq' hr)
 have HT := Lib.hid (fun K W (hh : Hold w K W) => Turned_any path A ca (by omega) hnA W (hq.on hh.1))
 have HL : Hid (l.length ≤ 64 ∧ 1 ≤ l.length) := ⟨hl, h0⟩
 have HQ := ((Hold.refl w).new #[.slice Ao o.length co, .slice Ap l.length cp] 26).new' #[.slice none 0 0, .slice none 0 0] 26 (n := w.heap.size + 1) (by simp)
 clear ha hb hga hgb hpe h hq hsr hob hne hp1 hp2 hpg hnA hso hgo hno hl h0
 go_enter Tryz.func37, Tryz.ntmps37
 go_upto_region 1 with (fail)
 generalize (World.alloc _ _) = W1 at HQ ⊢
 generalize w.heap.size + 1 = g8 at HQ ⊢
 obtain ⟨g0, hg0⟩ : ∃ g, w.heap.size = g := ⟨_, rfl⟩
 rw [hg0] at HQ ⊢
 clear hg0
 have HQ1 := Lib.hid HQ
 clear HQ
 go_upto_region 2 with (go_at_call 55; go_must (refine (HE.out _ _ HQ1.out).mono ?_; rintro e' W2 ⟨rfl, hB⟩; have hq2 := HQ1.out.on hB; clear hB))
 have HQ := (hq2.new #[.int .i64 a.1, .int .i64 a.2] 35).new' #[.int .i64 b.1, .int .i64 b.2] 35 (n := W2.heap.size + 1) (by simp)
 clear hq2
 generalize (World.alloc _ _) = W3 at HQ ⊢
 generalize W2.heap.size + 1 = g10 at HQ ⊢
 generalize W2.heap.size = g9 at HQ ⊢
 obtain ⟨c0, c1⟩ := HQ.pt (.tail _ (.tail _ (.tail _ (.head _))))
 obtain ⟨c2, c3⟩ := HQ.pt (.tail _ (.head _))
 obtain ⟨c4, c5⟩ := HQ.pt (.head _)
 have HQ3 := Lib.hid HQ
 clear HQ
 go_upto_region 3 with (go_at_call 56; go_must (refine (HWO.out _ _ HQ3.out).mono ?_; rintro e' W4 ⟨v, rfl, hv⟩; have hq4 := HQ3.out.on hv.1; have hr4 := hv.base HQ3.out.1; obtain ⟨A1, cA, rfl, -, -, -⟩ := hr4.full; have HQ4 := Lib.hid hq4; have HR4 := Lib.hid hr4; clear hv hq4 hr4))
 clear c0 c1 c2 c3 c4 c5
 have HB0 : Bn w (.slice A1 (putE o path).length cA) (putE o path) (.slice none 0 0) [] [] [(W4.heap.size, #[.slice A1 (putE o path).length cA, .slice none 0 0], 26), (g10, #[.int .i64 b.1, .int .i64 b.2], 35), (g9, #[.int .i64 a.1, .int .i64 a.2], 35), (g8, #[.slice none 0 0, .slice none 0 0], 26), (g0, #[.slice Ao o.length co, .slice Ap l.length cp], 26)] (W4.alloc (Obj.cells #[.slice A1 (putE o path).length cA, .slice none 0 0] 26 (0, 0))) :=
  ⟨HR4.out.on ((Below.refl _ W4).alloc (Nat.le_refl _) _), RowI.nil (HQ4.out.new _ _).1, (fun x hx => by cases hx), HQ4.out.new _ _, fun e he h => by cases h⟩
 generalize (World.alloc _ _) = W5 at HB0 ⊢
 generalize W4.heap.size = g11 at HB0 ⊢
 clear HR4 HQ4 HQ3 HQ1 HE HWO
 generalize hoe : putE o path = o' at *
 have HOE := Lib.hid hoe
 clear hoe
 obtain ⟨c0, c1⟩ := HB0.hold.pt (.tail _ (.tail _ (.tail _ (.tail _ (.head _)))))
 have HBX := Lib.hid HB0
 clear HB0
 go_wp2_with fail
 clear c0 c1
 go_loopg [29] l.length (fun g i wr => ∃ (k : Nat) (v : Value) (L : List PV), k ≤ l.length ∧ g = l.length - k ∧ i = .int .i64 k ∧ L.map PV.par = cutQ nmL ((l.take k).map PV.par) id path fresh ∧ Bn w (.slice A1 o'.length cA) o' v L L [(g11, #[.slice A1 o'.length cA, v], 26), (g10, #[.int .i64 b.1, .int .i64 b.2], 35), (g9, #[.int .i64 a.1, .int .i64 a.2], 35), (g8, #[.slice none 0 0, .slice none 0 0], 26), (g0, #[.slice Ao o.length co, .slice Ap l.length cp], 26)] wr)
 case atStart => exact ⟨0, .slice none 0 0, [], Nat.zero_le _, rfl, rfl, rfl, HBX.out⟩
 case round =>
  clear HBX
  obtain ⟨k, v, L, hk, hgk, rfl, hmap, HB⟩ := hrel
  have HGK := Lib.hid hgk
  have HMAP := Lib.hid hmap
  clear hgk hmap
  have HLL : Hid (L.length ≤ 1000) := by
   have h1 := congrArg List.length HMAP.out
   have h2 := (cutQ_len nmL id path fresh ((l.take k).map PV.par)).2
   have h3 := HL.out
   rw [List.length_map] at h1
   rw [List.length_map, List.length_take] at h2
   unfold Hid; omega
  by_cases hlt : k < l.length
  ·obtain ⟨ad, hA, -, d0, d1, d2⟩ := (HPR.out _ _ HB.hold).at hlt
   have b0 : (0 : Int) ≤ (k : Int) := by omega
   have b1 : (k : Int) < (l.length : Int) := by omega
   have b9 : (l.length : Int) ≤ 64 := by have := HL.out; omega
   have HX : Hid (l[k] ∈ l) := List.getElem_mem hlt
   have HMT := Lib.hid (cutQ_take nmL hlt id path fresh)
   have HWX := Lib.hid (HWC.out l[k] HX.out)
   have HX1 := Lib.hid (HC1.out l[k] HX.out)
   have HX2 := Lib.hid (HC2.out l[k] HX.out)
   have HRX := Lib.hid HPR.out
   clear HPR HWC HC1 HC2 HX
   subst hA
   generalize hx : l[k] = x at *
   clear hx
   have HQ := HB.new #[.int .i64 x.par.id, .slice x.A x.par.ring.length x.cap, .string x.par.own] 37
   clear HB
   go_upto_region 6 with (fail)
   generalize (World.alloc _ _) = W6 at HQ ⊢
   generalize wr.heap.size = g13 at HQ ⊢
   clear d0 d1 d2
   obtain ⟨k0, k1, k2⟩ := HQ.hold.q3 (.head _)
   obtain ⟨c2, c3⟩ := HQ.hold.pt (.tail _ (.tail _ (.tail _ (.head _))))
   obtain ⟨c4, c5⟩ := HQ.hold.pt (.tail _ (.tail _ (.head _)))
   have HQ6 := Lib.hid HQ
   clear HQ
   go_upto_region 7 with (go_at_call 56; go_must (refine (HWX.out _ _ HQ6.out.hold).mono ?_; rintro e' W7 ⟨v7, rfl, hv⟩; obtain ⟨A7, c7, rfl, hp7, hn7, hc7⟩ := hv.full; have hq7 := (HQ6.out.on hv.1).ring HQ6.out.hold.1 hv ⟨⟨x.par.id, putE x.par.ring path, x.par.own⟩, A7, c7⟩ rfl rfl rfl; have z1 := hq7.hold.frozen (.head _) 1; have z2 := hq7.hold.cell (.head _) 1; simp only [List.getElem?_toArray, List.getElem?_cons_zero, List.getElem?_cons_succ] at z2; have HQ7 := Lib.hid hq7; have HP7 := Lib.hid hp7; have HC7 := Lib.hid hc7; clear hv hq7 hp7 hn7 hc7 k0 k1 k2 c2 c3 c4 c5))
   generalize hr7 : putE x.par.ring path = r7 at *
   have HR7 := Lib.hid hr7
   clear hr7
   have HQ8 : Bn w (.slice A1 o'.length cA) o' v L (L ++ [⟨⟨x.par.id, r7, x.par.own⟩, A7, c7⟩]) [(g13, #[.int .i64 x.par.id, .slice A7 r7.length c7, .string x.par.own], 37), (g11, #[.slice A1 o'.length cA, v], 26), (g10, #[.int .i64 b.1, .int .i64 b.2], 35), (g9, #[.int .i64 a.1, .int .i64 a.2], 35), (g8, #[.slice none 0 0, .slice none 0 0], 26), (g0, #[.slice Ao o.length co, .slice (some ad) l.length cp], 26)] (W7.setCell ⟨g13, 1, none⟩ (.slice A7 r7.length c7)) := HQ7.out.set (show (37 : Nat) ≠ 35 by decide) 1 (.slice A7 r7.length c7)
   clear z1 z2 HQ7 HP7 HQ6 HWX
   generalize (World.setCell W7 _ _) = W8 at HQ8 ⊢
   obtain ⟨k0, k1, k2⟩ := HQ8.hold.q3 (.head _)
   have HQX := Lib.hid HQ8
   clear HQ8
   by_cases hid : x.par.id = id
   ·have HID := Lib.hid hid
    have e1 : (x.par.id == id) = true := by simpa using hid
    have HCP : Hid (cutPar nmL id path fresh x.par = [⟨fresh, nmL (closedL path r7), x.par.own⟩, ⟨x.par.id, nmL (closedL path.reverse r7), x.par.own⟩]) := by unfold Hid cutPar; rw [if_pos hid, HR7.out]
    have HY1 := Lib.hid (HX1.out hid)
    have HY2 := Lib.hid (HX2.out hid)
    clear hid HX1 HX2
    obtain ⟨rl, hrl⟩ : ∃ r, nmL (closedL path r7) = r := ⟨_, rfl⟩
    obtain ⟨rr, hrr⟩ : ∃ r, nmL (closedL path.reverse r7) = r := ⟨_, rfl⟩
    simp only [List.length_reverse] at HY2
    rw [hrl] at HY1 HCP
    rw [hrr] at HY2 HCP
    clear hrl hrr
    go_upto_region 8 with (fail)
    go_cut [14] (fun s wx => ∃ g14 A14 c14, s = .pointer (some ⟨g14, 0, none⟩) ∧ Bn w (.slice A1 o'.length cA) o' v L ((L ++ [⟨⟨x.par.id, r7, x.par.own⟩, A7, c7⟩]) ++ [⟨⟨fresh, rl, x.par.own⟩, A14, c14⟩]) [(g14, #[.int .i64 fresh, .slice A14 rl.length c14, .string x.par.own], 37), (g13, #[.int .i64 x.par.id, .slice A7 r7.length c7, .string x.par.own], 37), (g11, #[.slice A1 o'.length cA, v], 26), (g10, #[.int .i64 b.1, .int .i64 b.2], 35), (g9, #[.int .i64 a.1, .int .i64 a.2], 35), (g8, #[.slice none 0 0, .slice none 0 0], 26), (g0, #[.slice Ao o.length co, .slice (some ad) l.length cp], 26)] wx)
    case first =>
     have hH := HQX.out.drew
     refine wp_region_held_drew (S := fun W => W.cell? ⟨g13, 1, none⟩ = some (.slice A7 r7.length c7) ∧ W.cell? ⟨g13, 2, none⟩ = some (.string x.par.own)) (by kernel_rfl) ?_ (fun hHeld => ?_)
     ·(try dsimp only)
      exact ⟨(hH.hold.q3 (.head _)).2.1, (hH.hold.q3 (.head _)).2.2⟩
     refine tZ 0 ?_; refine tZ 1 ?_; refine tZ 2 ?_; refine tZ 3 ?_; refine tZ 5 ?_; refine tZ 6 ?_
     refine wpAnyH_ready (rs := [4, 8]) (by decide +kernel) (by simp) ?_
     refine AllReadyH.cons rfl (fun K hK => ?_) (AllReadyH.cons rfl (fun K hK => ?_) AllReadyH.nil)
     ·(try simp only [jA, jB, jC])
      go_simp
      go_at_call 57
      obtain ⟨q1, q2, q3⟩ := Bn.pts hH (x := ⟨⟨x.par.id, r7, x.par.own⟩, A7, c7⟩) (by simp)
      refine (HY1.out _ _ _ _ hH.hold q3 q1).mono ?_
      rintro e' W9 ⟨v9, rfl, hv⟩
      obtain ⟨A14, c14, rfl, -, -, -⟩ := hv.full
      have h9 := (hH.on hv.1).ring hH.hold.1 hv ⟨⟨fresh, rl, x.par.own⟩, A14, c14⟩ rfl rfl rfl
      clear q1 q2 q3
      refine hK.out _ _ ?_ (fun hHeld => ?_)
      focus ((try dsimp only); exact ⟨(h9.hold.q3 (.head _)).2.1, (h9.hold.q3 (.head _)).2.2⟩; done)
      clear hK K
      (try simp only [Act.put, jA, jB, jC, jD, jE, jF])
      refine tZ 7 ?_
      have h10 := h9.new #[.int .i64 0, .slice none 0 0, .string ⟨#[]⟩] 37
      refine wpAnyH_ready (rs := [8]) (by decide +kernel) (by simp) ?_
      refine AllReadyH.cons rfl (fun K hK => ?_) AllReadyH.nil
      (try simp only [jA, jB, jC])
      go_simp
      refine hK.out _ _ ?_ (fun hHeld => ?_)
      focus ((try dsimp only); exact ⟨(h10.hold.q3 (.tail _ (.head _))).2.1, (h10.hold.q3 (.tail _ (.head _))).2.2⟩; done)
      clear hK K
      (try simp only [Act.put, jA, jB, jC, jD, jE, jF])
      have h12 := h9.new #[.int .i64 fresh, .slice A14 rl.length c14, .string x.par.own] 37
      refine wpAnyH_ready (rs := [9]) (by decide +kernel) (by simp) ?_
      refine AllReadyH.cons rfl (fun K hK => ?_) AllReadyH.nil
      (try simp only [jA, jB, jC])
      go_simp
      refine hK.out _ _ ?_ (fun hHeld => ?_)
      focus ((try dsimp only); exact ⟨(h12.hold.q3 (.tail _ (.head _))).2.1, (h12.hold.q3 (.tail _ (.head _))).2.2⟩; done)
      clear hK K
      (try simp only [Act.put, jA, jB, jC, jD, jE, jF])
      refine wpAnyH_done (by decide +kernel) ?_ _
      go_wp2_with fail
      go_meet
      exact ⟨_, A14, c14, rfl, h12⟩
     ·(try simp only [jA, jB, jC])
      go_simp
      refine hK.out _ _ ?_ (fun hHeld => ?_)
      focus ((try dsimp only); exact ⟨((HQX.out.new #[.int .i64 0, .slice none 0 0, .string ⟨#[]⟩] 37).drew.hold.q3 (.tail _ (.head _))).2.1, ((HQX.out.new #[.int .i64 0, .slice none 0 0, .string ⟨#[]⟩] 37).drew.hold.q3 (.tail _ (.head _))).2.2⟩; done)
      clear hK K
      (try simp only [Act.put, jA, jB, jC, jD, jE, jF])
      have h8 := (HQX.out.new #[.int .i64 0, .slice none 0 0, .string ⟨#[]⟩] 37).drew
      refine wpAnyH_ready (rs := [4]) (by decide +kernel) (by simp) ?_
      refine AllReadyH.cons rfl (fun K hK => ?_) AllReadyH.nil
      (try simp only [jA, jB, jC])
      go_simp
      go_at_call 57
      obtain ⟨q1, q2, q3⟩ := Bn.pts h8 (x := ⟨⟨x.par.id, r7, x.par.own⟩, A7, c7⟩) (by simp)
      refine (HY1.out _ _ _ _ h8.hold q3 q1).mono ?_
      rintro e' W9 ⟨v9, rfl, hv⟩
      obtain ⟨A14, c14, rfl, -, -, -⟩ := hv.full
      have h9 := (h8.on hv.1).ring h8.hold.1 hv ⟨⟨fresh, rl, x.par.own⟩, A14, c14⟩ rfl rfl rfl
      clear q1 q2 q3
      refine hK.out _ _ ?_ (fun hHeld => ?_)
      focus ((try dsimp only); exact ⟨(h9.hold.q3 (.tail _ (.head _))).2.1, (h9.hold.q3 (.tail _ (.head _))).2.2⟩; done)
      clear hK K
      (try simp only [Act.put, jA, jB, jC, jD, jE, jF])
      refine tZ 7 ?_
      obtain ⟨u0, u1, u2⟩ := h9.hold.q3 (.head _)
      obtain ⟨f0, f1, f2⟩ : _ ∧ _ ∧ _ := ⟨h9.hold.frozen (.head _) 0, h9.hold.frozen (.head _) 1, h9.hold.frozen (.head _) 2⟩
      have h12 := ((h9.set (show (37 : Nat) ≠ 35 by decide) 0 (.int .i64 fresh)).set (show (37 : Nat) ≠ 35 by decide) 1 (.slice A14 rl.length c14)).set (show (37 : Nat) ≠ 35 by decide) 2 (.string x.par.own)
      refine wpAnyH_ready (rs := [9]) (by decide +kernel) (by simp) ?_
      refine AllReadyH.cons rfl (fun K hK => ?_) AllReadyH.nil
      (try simp only [jA, jB, jC])
      go_simp
      refine hK.out _ _ ?_ (fun hHeld => ?_)
      focus ((try dsimp only); exact ⟨(h12.hold.q3 (.tail _ (.head _))).2.1, (h12.hold.q3 (.tail _ (.head _))).2.2⟩; done)
      clear hK K
      (try simp only [Act.put, jA, jB, jC, jD, jE, jF])
      refine wpAnyH_done (by decide +kernel) ?_ _
      go_wp2_with fail
      go_meet
      exact ⟨_, A14, c14, rfl, h12⟩
    case rest =>
     obtain ⟨g14, A14, c14, rfl, hq⟩ := hcut
     clear k0 k1 k2 HQX
     generalize wc = W9 at hq ⊢
     have HQ9 := Lib.hid hq
     obtain ⟨k0, k1, k2⟩ := hq.hold.q3 (.head _)
     have m1 := hq.hold.cell (.tail _ (.tail _ (.head _))) 1
     simp only [List.getElem?_toArray, List.getElem?_cons_zero, List.getElem?_cons_succ] at m1
     clear hq
     go_upto_region 10 with (at_builtin; go_must (refine append_itemC kindV Tryz.underlying24 HQ9.out.row ⟨⟨fresh, rl, x.par.own⟩, A14, c14⟩ 37 (cs := #[.int .i64 fresh, .slice A14 rl.length c14, .string x.par.own]) rfl (by have := HLL.out; (try simp only [List.length_append, List.length_cons, List.length_nil]); unfold maxLen; omega) (by have := HLL.out; (try simp only [List.length_append, List.length_cons, List.length_nil]); omega) rfl _ _ rfl rfl 1 rfl ?_; rintro v9 w10 HR9 hg9 ha9; have h9 := HQ9.out.more HR9 hg9 ha9; obtain ⟨A9, c9, hv9, -, -⟩ := HR9.items; have hl9 : (L ++ [(⟨⟨fresh, rl, x.par.own⟩, A14, c14⟩ : PV)]).length = L.length + 1 := (by simp); rw [hl9] at hv9; have z1 := h9.hold.frozen (.tail _ (.tail _ (.head _))) 1; have z2 := h9.hold.cell (.tail _ (.tail _ (.head _))) 1; simp only [List.getElem?_toArray, List.getElem?_cons_zero, List.getElem?_cons_succ] at z2; have HQ10 := Lib.hid h9; subst hv9; clear HR9 hg9 ha9 h9 hl9))
     have HQ11 : Bn w (.slice A1 o'.length cA) o' (.slice A9 (L.length + 1) c9) (L ++ [⟨⟨fresh, rl, x.par.own⟩, A14, c14⟩]) ((L ++ [⟨⟨x.par.id, r7, x.par.own⟩, A7, c7⟩]) ++ [⟨⟨fresh, rl, x.par.own⟩, A14, c14⟩]) [(g13, #[.int .i64 x.par.id, .slice A7 r7.length c7, .string x.par.own], 37), (g11, #[.slice A1 o'.length cA, .slice A9 (L.length + 1) c9], 26), (g10, #[.int .i64 b.1, .int .i64 b.2], 35), (g9, #[.int .i64 a.1, .int .i64 a.2], 35), (g8, #[.slice none 0 0, .slice none 0 0], 26), (g0, #[.slice Ao o.length co, .slice (some ad) l.length cp], 26)] (w10.setCell ⟨g11, 1, none⟩ (.slice A9 (L.length + 1) c9)) := (HQ10.out.set2 (show (26 : Nat) ≠ 35 by decide) 1 (.slice A9 (L.length + 1) c9)).tail
     clear k0 k1 k2 m1 z1 z2 HQ10 HQ9
     generalize (World.setCell w10 _ _) = W11 at HQ11 ⊢
     have HQX := Lib.hid HQ11
     clear HQ11
     go_cut [13] (fun s wx => s = .pointer (some ⟨g13, 0, none⟩) ∧ ∃ A16 c16, Bn w (.slice A1 o'.length cA) o' (.slice A9 (L.length + 1) c9) (L ++ [⟨⟨fresh, rl, x.par.own⟩, A14, c14⟩]) (((L ++ [⟨⟨x.par.id, r7, x.par.own⟩, A7, c7⟩]) ++ [⟨⟨fresh, rl, x.par.own⟩, A14, c14⟩]) ++ [⟨⟨x.par.id, rr, x.par.own⟩, A16, c16⟩]) [(g13, #[.int .i64 x.par.id, .slice A16 rr.length c16, .string x.par.own], 37), (g11, #[.slice A1 o'.length cA, .slice A9 (L.length + 1) c9], 26), (g10, #[.int .i64 b.1, .int .i64 b.2], 35), (g9, #[.int .i64 a.1, .int .i64 a.2], 35), (g8, #[.slice none 0 0, .slice none 0 0], 26), (g0, #[.slice Ao o.length co, .slice (some ad) l.length cp], 26)] wx)
     case first =>
      have hH := HQX.out.drew
      refine wp_region_held_drew (S := fun _ => True) (by kernel_rfl) trivial (fun hHeld => ?_)
      refine tZ 0 ?_; refine tZ 2 ?_
      refine wpAnyH_ready (rs := [1, 3]) (by decide +kernel) (by simp) ?_
      refine AllReadyH.cons rfl (fun K hK => ?_) (AllReadyH.cons rfl (fun K hK => ?_) AllReadyH.nil)
      ·(try simp only [jA, jB, jC])
       go_simp
       go_at_call 58
       refine (HT.out _ _ hH.hold).mono ?_
       rintro e' W12 ⟨v12, rfl, hv⟩
       obtain ⟨A12, c12, rfl, hp12, hn12, -⟩ := hv.full
       have h12 := hH.on hv.1
       clear hv
       refine hK.out _ _ ?_ (fun hHeld => ?_)
       focus ((try dsimp only); all_goals trivial; done)
       clear hK K
       (try simp only [Act.put, jA, jB, jC, jD, jE, jF])
       obtain ⟨-, u1, -⟩ := h12.hold.q3 (.head _)
       refine wpAnyH_ready (rs := [3]) (by decide +kernel) (by simp) ?_
       refine AllReadyH.cons rfl (fun K hK => ?_) AllReadyH.nil
       (try simp only [jA, jB, jC])
       go_simp
       refine hK.out _ _ ?_ (fun hHeld => ?_)
       focus ((try dsimp only); all_goals trivial; done)
       clear hK K
       (try simp only [Act.put, jA, jB, jC, jD, jE, jF])
       clear u1
       refine wpAnyH_ready (rs := [4]) (by decide +kernel) (by simp) ?_
       refine AllReadyH.cons rfl (fun K hK => ?_) AllReadyH.nil
       (try simp only [jA, jB, jC])
       go_simp
       go_at_call 57
       obtain ⟨q1, q2, q3⟩ := Bn.pts h12 (x := ⟨⟨x.par.id, r7, x.par.own⟩, A7, c7⟩) (by simp)
       refine (HY2.out _ _ _ _ _ hn12 q3 hp12 q1).mono ?_
       rintro e' W13 ⟨v13, rfl, hv⟩
       obtain ⟨A16, c16, rfl, -, -, -⟩ := hv.full
       have h13 := (h12.on hv.1).ring h12.hold.1 hv ⟨⟨x.par.id, rr, x.par.own⟩, A16, c16⟩ rfl rfl rfl
       clear q1 q2 q3
       refine hK.out _ _ ?_ (fun hHeld => ?_)
       focus ((try dsimp only); all_goals trivial; done)
       clear hK K
       (try simp only [Act.put, jA, jB, jC, jD, jE, jF])
       refine tZ 5 ?_
       obtain ⟨u0, u1, u2⟩ := h13.hold.q3 (.head _)
       have f1 := h13.hold.frozen (.head _) 1
       refine wpAnyH_ready (rs := [6]) (by decide +kernel) (by simp) ?_
       refine AllReadyH.cons rfl (fun K hK => ?_) AllReadyH.nil
       (try simp only [jA, jB, jC])
       go_simp
       refine hK.out _ _ ?_ (fun hHeld => ?_)
       focus ((try dsimp only); all_goals trivial; done)
       clear hK K
       (try simp only [Act.put, jA, jB, jC, jD, jE, jF])
       refine wpAnyH_done (by decide +kernel) ?_ _
       go_wp2_with fail
       go_meet
       exact ⟨rfl, A16, c16, h13.set (show (37 : Nat) ≠ 35 by decide) 1 (.slice A16 rr.length c16)⟩
      ·have u1 := (hH.hold.q3 (.head _)).2.1
       (try simp only [jA, jB, jC])
       go_simp
       refine hK.out _ _ ?_ (fun hHeld => ?_)
       focus ((try dsimp only); all_goals trivial; done)
       clear hK K
       (try simp only [Act.put, jA, jB, jC, jD, jE, jF])
       clear u1
       refine wpAnyH_ready (rs := [1]) (by decide +kernel) (by simp) ?_
       refine AllReadyH.cons rfl (fun K hK => ?_) AllReadyH.nil
       (try simp only [jA, jB, jC])
       go_simp
       go_at_call 58
       refine (HT.out _ _ hH.hold).mono ?_
       rintro e' W12 ⟨v12, rfl, hv⟩
       obtain ⟨A12, c12, rfl, hp12, hn12, -⟩ := hv.full
       have h12 := hH.on hv.1
       clear hv
       refine hK.out _ _ ?_ (fun hHeld => ?_)
       focus ((try dsimp only); all_goals trivial; done)
       clear hK K
       (try simp only [Act.put, jA, jB, jC, jD, jE, jF])
       refine wpAnyH_ready (rs := [4]) (by decide +kernel) (by simp) ?_
       refine AllReadyH.cons rfl (fun K hK => ?_) AllReadyH.nil
       (try simp only [jA, jB, jC])
       go_simp
       go_at_call 57
       obtain ⟨q1, q2, q3⟩ := Bn.pts h12 (x := ⟨⟨x.par.id, r7, x.par.own⟩, A7, c7⟩) (by simp)
       refine (HY2.out _ _ _ _ _ hn12 q3 hp12 q1).mono ?_
       rintro e' W13 ⟨v13, rfl, hv⟩
       obtain ⟨A16, c16, rfl, -, -, -⟩ := hv.full
       have h13 := (h12.on hv.1).ring h12.hold.1 hv ⟨⟨x.par.id, rr, x.par.own⟩, A16, c16⟩ rfl rfl rfl
       clear q1 q2 q3
       refine hK.out _ _ ?_ (fun hHeld => ?_)
       focus ((try dsimp only); all_goals trivial; done)
       clear hK K
       (try simp only [Act.put, jA, jB, jC, jD, jE, jF])
       refine tZ 5 ?_
       obtain ⟨u0, u1, u2⟩ := h13.hold.q3 (.head _)
       have f1 := h13.hold.frozen (.head _) 1
       refine wpAnyH_ready (rs := [6]) (by decide +kernel) (by simp) ?_
       refine AllReadyH.cons rfl (fun K hK => ?_) AllReadyH.nil
       (try simp only [jA, jB, jC])
       go_simp
       refine hK.out _ _ ?_ (fun hHeld => ?_)
       focus ((try dsimp only); all_goals trivial; done)
       clear hK K
       (try simp only [Act.put, jA, jB, jC, jD, jE, jF])
       refine wpAnyH_done (by decide +kernel) ?_ _
       go_wp2_with fail
       go_meet
       exact ⟨rfl, A16, c16, h13.set (show (37 : Nat) ≠ 35 by decide) 1 (.slice A16 rr.length c16)⟩
     case rest =>
      obtain ⟨rfl, A16, c16, hq⟩ := hcut
      clear HQX
      generalize wc = W14 at hq ⊢
      have HQ14 := Lib.hid hq
      obtain ⟨k0, k1, k2⟩ := hq.hold.q3 (.head _)
      have m1 := hq.hold.cell (.tail _ (.head _)) 1
      simp only [List.getElem?_toArray, List.getElem?_cons_zero, List.getElem?_cons_succ] at m1
      clear hq
      go_wp2_with (at_builtin; go_must (refine append_itemC kindV Tryz.underlying24 HQ14.out.row ⟨⟨x.par.id, rr, x.par.own⟩, A16, c16⟩ 37 (cs := #[.int .i64 x.par.id, .slice A16 rr.length c16, .string x.par.own]) rfl (by have := HLL.out; (try simp only [List.length_append, List.length_cons, List.length_nil]); unfold maxLen; omega) (by have := HLL.out; (try simp only [List.length_append, List.length_cons, List.length_nil]); omega) rfl _ _ rfl rfl 1 rfl ?_; rintro v9 w15 HR9 hg9 ha9; have h9 := HQ14.out.more HR9 hg9 ha9; obtain ⟨A15, c15, hv9, -, -⟩ := HR9.items; have hl9 : ((L ++ [(⟨⟨fresh, rl, x.par.own⟩, A14, c14⟩ : PV)]) ++ [(⟨⟨x.par.id, rr, x.par.own⟩, A16, c16⟩ : PV)]).length = L.length + 2 := (by simp); rw [hl9] at hv9; have z1 := h9.hold.frozen (.tail _ (.head _)) 1; have z2 := h9.hold.cell (.tail _ (.head _)) 1; simp only [List.getElem?_toArray, List.getElem?_cons_zero, List.getElem?_cons_succ] at z2; have HQ15 := Lib.hid h9; subst hv9; clear HR9 hg9 ha9 h9 hl9))
      have HQ16 : Bn w (.slice A1 o'.length cA) o' (.slice A15 (L.length + 2) c15) ((L ++ [(⟨⟨fresh, rl, x.par.own⟩, A14, c14⟩ : PV)]) ++ [(⟨⟨x.par.id, rr, x.par.own⟩, A16, c16⟩ : PV)]) (((L ++ [(⟨⟨x.par.id, r7, x.par.own⟩, A7, c7⟩ : PV)]) ++ [(⟨⟨fresh, rl, x.par.own⟩, A14, c14⟩ : PV)]) ++ [(⟨⟨x.par.id, rr, x.par.own⟩, A16, c16⟩ : PV)]) [(g11, #[.slice A1 o'.length cA, .slice A15 (L.length + 2) c15], 26), (g10, #[.int .i64 b.1, .int .i64 b.2], 35), (g9, #[.int .i64 a.1, .int .i64 a.2], 35), (g8, #[.slice none 0 0, .slice none 0 0], 26), (g0, #[.slice Ao o.length co, .slice (some ad) l.length cp], 26)] (w15.setCell ⟨g11, 1, none⟩ (.slice A15 (L.length + 2) c15)) := (HQ15.out.set1 (show (26 : Nat) ≠ 35 by decide) 1 (.slice A15 (L.length + 2) c15)).tail
      go_roundg (l.length - (k + 1))
      case measure => have := HGK.out; omega
      case rel => exact ⟨k + 1, _, (L ++ [(⟨⟨fresh, rl, x.par.own⟩, A14, c14⟩ : PV)]) ++ [(⟨⟨x.par.id, rr, x.par.own⟩, A16, c16⟩ : PV)], by omega, rfl, by go_num, by rw [HMT.out, List.map_append, List.map_append, HMAP.out, HCP.out, List.append_assoc]; rfl, HQ16.less (fun y hy => by simp only [List.mem_append, List.mem_singleton] at hy ⊢; rcases hy with (h | h) | h; exact .inl (.inl (.inl h)); exact .inl (.inr h); exact .inr h)⟩
   ·have e1 : (x.par.id == id) = false := by simpa using hid
    have HCP : Hid (cutPar nmL id path fresh x.par = [⟨x.par.id, r7, x.par.own⟩]) := by unfold Hid cutPar; rw [if_neg hid, HR7.out]
    clear hid HX1 HX2
    go_upto_region 11 with (fail)
    have m1 := HQX.out.hold.cell (.tail _ (.head _)) 1
    simp only [List.getElem?_toArray, List.getElem?_cons_zero, List.getElem?_cons_succ] at m1
    go_wp2_with (at_builtin; go_must (refine append_itemC kindV Tryz.underlying24 HQX.out.row ⟨⟨x.par.id, r7, x.par.own⟩, A7, c7⟩ 37 (cs := #[.int .i64 x.par.id, .slice A7 r7.length c7, .string x.par.own]) rfl (by have := HLL.out; unfold maxLen; omega) (by have := HLL.out; omega) rfl _ _ rfl rfl 1 rfl ?_; rintro v9 w9 HR9 hg9 ha9; have h9 := HQX.out.more HR9 hg9 ha9; obtain ⟨A9, c9, hv9, -, -⟩ := HR9.items; have hl9 : (L ++ [(⟨⟨x.par.id, r7, x.par.own⟩, A7, c7⟩ : PV)]).length = L.length + 1 := (by simp); rw [hl9] at hv9; have z1 := h9.hold.frozen (List.mem_cons_of_mem _ List.mem_cons_self) 1; have z2 := h9.hold.cell (List.mem_cons_of_mem _ List.mem_cons_self) 1; simp only [List.getElem?_toArray, List.getElem?_cons_zero, List.getElem?_cons_succ] at z2; have HQ9 := Lib.hid h9; subst hv9; clear HR9 hg9 ha9 h9 hl9))
    have HQ10 : Bn w (.slice A1 o'.length cA) o' (.slice A9 (L.length + 1) c9) (L ++ [(⟨⟨x.par.id, r7, x.par.own⟩, A7, c7⟩ : PV)]) (L ++ [(⟨⟨x.par.id, r7, x.par.own⟩, A7, c7⟩ : PV)]) [(g13, #[.int .i64 x.par.id, .slice A7 r7.length c7, .string x.par.own], 37), (g11, #[.slice A1 o'.length cA, .slice A9 (L.length + 1) c9], 26), (g10, #[.int .i64 b.1, .int .i64 b.2], 35), (g9, #[.int .i64 a.1, .int .i64 a.2], 35), (g8, #[.slice none 0 0, .slice none 0 0], 26), (g0, #[.slice Ao o.length co, .slice (some ad) l.length cp], 26)] (w9.setCell ⟨g11, 1, none⟩ (.slice A9 (L.length + 1) c9)) := HQ9.out.set1 (show (26 : Nat) ≠ 35 by decide) 1 (.slice A9 (L.length + 1) c9)
    go_roundg (l.length - (k + 1))
    case measure => have := HGK.out; omega
    case rel => exact ⟨k + 1, _, L ++ [⟨⟨x.par.id, r7, x.par.own⟩, A7, c7⟩], by omega, rfl, by go_num, by rw [HMT.out, List.map_append, HMAP.out, HCP.out]; rfl, HQ10.tail⟩
  ·obtain rfl : k = l.length := by omega
   have HM2 : Hid (L.map PV.par = cutQ nmL (l.map PV.par) id path fresh) := by have := HMAP.out; rwa [List.take_length] at this
   have h0 : 0 < L.length := by
    have h1 := congrArg List.length HM2.out
    have h2 := (cutQ_len nmL id path fresh (l.map PV.par)).1
    have h3 := HL.out
    rw [List.length_map] at h1 h2
    omega
   obtain ⟨Av, cv, rfl, -, -⟩ := HB.row.items
   have HSO := Lib.hid (sortV_any w wr Av L.length cv L h0 (by have := HLL.out; omega) HB.row)
   have m1 := HB.hold.cell (.head _) 1
   simp only [List.getElem?_toArray, List.getElem?_cons_zero, List.getElem?_cons_succ] at m1
   have HBX := Lib.hid HB
   clear HB HPR HWC HC1 HC2 HT HMAP HGK h0
   go_upto_region 14 with (go_at_call 59; go_must (refine HSO.out.mono ?_; rintro e' W9 ⟨rfl, l', hp, hpw, hrow, hsz, hoth⟩; have hb := HBX.out.sorted hrow hoth; have HB9 := Lib.hid hb; have HP9 := Lib.hid hp; have HW9 := Lib.hid hpw; clear hp hpw hrow hsz hoth hb))
   clear m1
   have hlen : L.length = l'.length := HP9.out.length_eq.symm
   rw [hlen] at HB9 ⊢
   obtain ⟨c0, c1⟩ := HB9.out.hold.pt (.head _)
   obtain ⟨c2, c3⟩ := HB9.out.hold.pt (.tail _ (.tail _ (.tail _ (.head _))))
   obtain ⟨c4, c5⟩ := HB9.out.hold.fz (.tail _ (.tail _ (.tail _ (.head _))))
   go_wp2
   have HE := Bn.put (H1 := [_, _, _]) (Bn.put (H1 := [_, _, _]) HB9.out (show (26 : Nat) ≠ 35 by decide) 0 (.slice A1 o'.length cA)) (show (26 : Nat) ≠ 35 by decide) 1 (.slice Av l'.length cv)
   have n0 := HE.hold.cell (.tail _ (.tail _ (.tail _ (.head _)))) 0
   have n1 := HE.hold.cell (.tail _ (.tail _ (.tail _ (.head _)))) 1
   simp only [List.setIfInBounds_toArray, List.set_cons_zero, List.set_cons_succ, List.getElem?_toArray, List.getElem?_cons_zero, List.getElem?_cons_succ] at n0 n1
   refine bodyPost_ret (v := .agg #[.slice A1 o'.length cA, .slice Av l'.length cv]) ?_ rfl ⟨A1, cA, Av, cv, l', by rw [HOE.out], ?_, List.pairwise_map.2 HW9.out, by rw [HOE.out]; exact HE.out, HE.row, fun x hx => HE.rs x (HP9.out.subset hx)⟩
   ·simp [results, Tryz.results37, go_sem, n0, n1]
   ·have := HP9.out.map PV.par
    rwa [HM2.out] at this
end Go.Proofs.YtaedlfiafnbceaaGreat
