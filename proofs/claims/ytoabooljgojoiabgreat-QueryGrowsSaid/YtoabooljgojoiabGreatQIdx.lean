/- One number more at a row of the call's own, in a drawn region: what turns, and where the row lies then. -/
import Derived.Test.YtoabooljgojoiabGreatQRows
import Derived.Maps.AppendAt
namespace Go.Proofs.YtoabooljgojoiabGreat
open Go.RowKit
section
variable {W : World} {B : Nat} {ops : Array Oper} {o : Oper} {a : Act} {KK : Act → World → Prop} {Q : Exit → Act → World → Prop} {E : Prop}
theorem step_append_one (r : List Int × Option Addr × Nat) (hown : W.ownsRow B 3 1 (cvV r) r.1.length (r.1.flatMap encN)) (hB : B ≤ W.heap.size) (x : Int) (ad : Addr) (c : Nat) (hnew : W.cell? (ad.add 0) = some (.int .i64 x)) (hn : r.1.length ≤ 1000000)
  (hgd : o.guard = none) (s y : Operand) (ho : o.op = .call { callee := .builtin .append, args := #[s, y], argTypes := #[36, 36] })
  (hs : a.eval s = cvV r) (hx : a.eval y = .slice (some ad) 1 c)
  (h : ∀ (r' : List Int × Option Addr × Nat) (w' : World), r'.1 = r.1 ++ [x] → w'.ownsRow B 3 1 (cvV r') r'.1.length (r'.1.flatMap encN) → W.grownBy w' (cvV r).ownBlock → ((cvV r').ownBlock = (cvV r).ownBlock ∨ (cvV r').ownBlock = some W.heap.size) → KK (a.put o.dst (cvV r')) w') :
  if Region.wanted o (yielded ops a.tmps) = true then Oper.wp Tryz.prog o a W KK Q else E := by
 rw [if_pos (wanted_of hgd)]
 obtain ⟨i0, z, hi, hz0, hz1, hz2, hz3⟩ := kindN.info
 obtain ⟨v', w', hr, h2, h3, h4, h5⟩ := run_append_own_at (P := Tryz.prog) W B 36 o.type 3 i0 z 1 8 Tryz.underlying36 hi hz0 hz1 hz2 hz3 (by decide) (cvV r) r.1.length (r.1.flatMap encN) hown ad 1 c [.int .i64 x] rfl (fun j u hu => by
  match j, hu with
  |0, hu =>
   simp at hu
   subst hu
   exact hnew) (fun u hu => by obtain rfl := List.mem_singleton.1 hu; rfl) (by unfold maxLen; omega) (by omega) hB
 obtain ⟨A, cap, e⟩ : ∃ A cap, v' = cvV (r.1 ++ [x], A, cap) := by
  rcases h2.2 with ⟨rfl, h0⟩ | ⟨g, cap, cur, rfl, _⟩
  ·omega
  ·exact ⟨some ⟨g, 0, none⟩, cap, by simp [cvV]⟩
 subst e
 unfold Oper.wp execOp
 simp only [ho, resolve, invoke, builtin, Sem.run_bind, Sem.run_pure, Result.andThen_ok, List.map_toArray, List.map_cons, List.map_nil, hs, hx, hr]
 refine h _ _ rfl ?_ h3 h5
 simp only [List.length_append, List.length_cons, List.length_nil, List.flatMap_append, List.flatMap_cons, List.flatMap_nil, List.append_nil]
 exact h2
end
end Go.Proofs.YtoabooljgojoiabGreat

namespace Go.Proofs.YtoabooljgojoiabGreat
open Go.RowKit
def rowsOf : List CRow → (Int × Int) → List Int
 |[], _ => []
 |p :: L, c => if p.1 = c then p.2.1 else rowsOf L c
theorem rowsOf_not : ∀ {L : List CRow} {c : Int × Int}, c ∉ L.map Prod.fst → rowsOf L c = []
 |[], _, _ => rfl
 |p :: L, c, h => by
  have h' : ¬ (c = p.1 ∨ c ∈ L.map Prod.fst) := by rw [List.map_cons, List.mem_cons] at h; exact h
  unfold rowsOf
  rw [if_neg (fun e => h' (.inl e.symm)), rowsOf_not (fun e => h' (.inr e))]
theorem rowsOf_at : ∀ {L : List CRow} {p : CRow} {j : Nat}, (L.map Prod.fst).Nodup → L[j]? = some p → rowsOf L p.1 = p.2.1
 |[], _, _, _, h => by simp at h
 |q :: L, p, 0, _, h => by
  obtain rfl := Option.some.inj h
  unfold rowsOf
  rw [if_pos rfl]
 |q :: L, p, j + 1, hn, h => by
  rw [List.map_cons, List.nodup_cons] at hn
  rw [List.getElem?_cons_succ] at h
  have hne : ¬ q.1 = p.1 := fun e => hn.1 (e ▸ List.mem_map_of_mem (List.mem_of_getElem? h))
  unfold rowsOf
  rw [if_neg hne, rowsOf_at hn.2 h]
theorem rowsOf_more : ∀ (L : List CRow) (c c' : Int × Int), rowsOf (L ++ [(c, cv0)]) c' = rowsOf L c'
 |[], c, c' => by
  show (if c = c' then ([] : List Int) else []) = []
  split <;> rfl
 |p :: L, c, c' => by
  show (if p.1 = c' then p.2.1 else rowsOf (L ++ [(c, cv0)]) c') = if p.1 = c' then p.2.1 else rowsOf L c'
  rw [rowsOf_more L c c']
theorem rowsOf_set : ∀ {L : List CRow} {p : CRow} {j : Nat} (r' : List Int × Option Addr × Nat) (c : Int × Int), (L.map Prod.fst).Nodup → L[j]? = some p → rowsOf (L.set j (p.1, r')) c = if p.1 = c then r'.1 else rowsOf L c
 |[], _, _, _, _, _, h => by simp at h
 |q :: L, p, 0, r', c, _, h => by
  obtain rfl := Option.some.inj h
  show (if q.1 = c then r'.1 else rowsOf L c) = if q.1 = c then r'.1 else (if q.1 = c then q.2.1 else rowsOf L c)
  split <;> rfl
 |q :: L, p, j + 1, r', c, hn, h => by
  rw [List.map_cons, List.nodup_cons] at hn
  rw [List.getElem?_cons_succ] at h
  have hne : ¬ q.1 = p.1 := fun e => hn.1 (e ▸ List.mem_map_of_mem (List.mem_of_getElem? h))
  show (if q.1 = c then q.2.1 else rowsOf (L.set j (p.1, r')) c) = if p.1 = c then r'.1 else (if q.1 = c then q.2.1 else rowsOf L c)
  rw [rowsOf_set r' c hn.2 h]
  by_cases e1 : q.1 = c
  ·rw [if_pos e1, if_pos e1, if_neg (fun e2 => hne (e1.trans e2.symm))]
  ·rw [if_neg e1, if_neg e1]
theorem got_rows {L : List CRow} (hn : (L.map Prod.fst).Nodup) {c : Int × Int} {r : (List Int × Option Addr × Nat) × Bool} (h : Got L cv0 c r) : r.1.1 = rowsOf L c := by
 rcases h with ⟨h1, rfl⟩ | ⟨-, h2⟩
 ·rw [rowsOf_not h1]; rfl
 ·obtain ⟨j, hj, e⟩ := List.getElem_of_mem h2
  have h3 : L[j]? = some (c, r.1) := by rw [List.getElem?_eq_getElem hj, e]
  exact (rowsOf_at hn h3).symm
theorem items_row {B : Nat} {W : World} {T : TypeId} {n : Nat} {α : Type} {enc : α → List Value} {v : Value} {l : List α} (h : W.ownsRow B T n v l.length (l.flatMap enc)) : ∃ A cap, v = .slice A l.length cap ∧ Items W W.heap.size A enc l ∧ NilOk A cap := by
 have hc := fun g (hg : v.ownBlock = some g) => h.cells hg
 obtain ⟨hl, ⟨rfl, h0⟩ | ⟨g, cap, cur, rfl, hb, hg, -⟩⟩ := h
 ·exact ⟨none, 0, by rw [h0], fun hp => absurd (List.length_eq_zero_iff.1 h0) hp, fun _ => rfl⟩
 ·exact ⟨some ⟨g, 0, none⟩, cap, rfl, fun _ => ⟨_, rfl, blk_lt hg, fun j u hu => hc g rfl _ _ hu⟩, fun e => by cases e⟩
theorem cellsAt_of {w0 W : World} {b m3 : Nat} {L : List CRow} (hb : b < w0.heap.size) (h5 : W.cell? ⟨b, 5, none⟩ = some (.map (some m3))) (hm : MapIs W m3 pv cvV OkP L) (ho : OwnRw w0 W L) : CellsAt W b (rowsOf L) := by
 refine ⟨m3, L, h5, hm, fun c r hg => ⟨got_rows hm.nodup hg, ?_⟩⟩
 rcases hg with ⟨-, rfl⟩ | ⟨-, h2⟩
 ·exact ⟨Items.nil _ _ _ _, fun _ => rfl, fun ad e => by cases e⟩
 ·obtain ⟨j, hj, e⟩ := List.getElem_of_mem h2
  have hr := ho.own j _ (by rw [List.getElem?_eq_getElem hj, e])
  have hbl : ∀ ad, (cvV r.1) = .slice (some ad) r.1.1.length r.1.2.2 → w0.heap.size ≤ ad.block := fun ad e9 => by
   rcases hr.2 with ⟨e1, _⟩ | ⟨g, cap, cur, e1, hg, _⟩
   ·have e2 := e9.symm.trans e1
    injection e2 with e3
    cases e3
   ·have e2 := e9.symm.trans e1
    injection e2 with e3
    obtain rfl := Option.some.inj e3
    exact hg
  obtain ⟨A, cap, e1, e2, e3⟩ := items_row hr
  unfold cvV at e1
  injection e1 with e4 e5 e6
  rw [e4, e6]
  refine ⟨e2, e3, fun ad e7 e8 => ?_⟩
  have h1 := hbl ad (by unfold cvV; rw [e4, e7])
  have h2 := Option.some.inj e8
  omega
end Go.Proofs.YtoabooljgojoiabGreat

namespace Go.Proofs.YtoabooljgojoiabGreat
open Go.RowKit
def idsIn (cf : PV → List (Int × Int)) (L : List (Int × PV)) (c : Int × Int) : List Int := (L.filter fun p => decide (c ∈ cf p.2)).map Prod.fst
theorem idsIn_out (cf : PV → List (Int × Int)) (l1 l2 : List (Int × PV)) (p : Int × PV) (c : Int × Int) : (idsIn cf (l1 ++ p :: l2) c).Perm (idsIn cf (l1 ++ l2) c ++ if c ∈ cf p.2 then [p.1] else []) := by
 unfold idsIn
 by_cases h : c ∈ cf p.2
 ·rw [if_pos h, List.filter_append, List.filter_cons_of_pos (by simpa using h), List.filter_append, List.map_append, List.map_append, List.map_cons, List.append_assoc]
  exact List.Perm.append_left _ (List.perm_append_singleton _ _).symm
 ·rw [if_neg h, List.filter_append, List.filter_cons_of_neg (by simpa using h), List.filter_append, List.append_nil]
theorem grow_far {w W W' : World} {row row2 : Option Nat} (h1 : w.grownBy W row) (h2 : W.grownBy W' row2) (hr : ∀ k, row2 = some k → w.heap.size ≤ k) : w.grownBy W' row :=
 ⟨h2.os.trans h1.os, h2.tape.trans h1.tape, h2.output.trans h1.output, Nat.le_trans h1.size h2.size, fun k hk hne => (h2.block k (Nat.lt_of_lt_of_le hk h1.size) (fun e => by have := hr k e.symm; omega)).trans (h1.block k hk hne)⟩
theorem Pts.but {w w' : World} {A : Option Addr} {ps : List (Int × Int)} {row : Option Nat} (h : Pts w w.heap.size A ps) (hg : w.grownBy w' row) (hne : ∀ ad, A = some ad → row ≠ some ad.block) : Pts w' w'.heap.size A ps := by
 intro hp
 obtain ⟨ad, e, hlt, hc⟩ := h hp
 refine ⟨ad, e, Nat.lt_of_lt_of_le hlt hg.size, fun k p hk => ?_⟩
 obtain ⟨h1, h2⟩ := hc k p hk
 exact ⟨(cell_but hg (by rw [block_of_add]; exact hlt) (by rw [block_of_add]; exact hne ad e)).trans h1, (cell_but hg (by rw [block_of_add, block_of_add]; exact hlt) (by rw [block_of_add, block_of_add]; exact hne ad e)).trans h2⟩
theorem iter_row {w0 W : World} {L : List CRow} {α β : Type} {b r : Nat} {ek : α → Value} {ev : β → Value} {Ok : α → Prop} {l left : List (α × β)} (h : OwnRw w0 W L) (hr : Ranges W b r ek ev Ok l left) : ∀ (i : Nat) (p : CRow), L[i]? = some p → (cvV p.2).ownBlock = none ∨ (cvV p.2).ownBlock ≠ some r := fun i p hp => .inr fun e => by
 obtain ⟨es, c, since, seen, c0, _, _, _, _, hi, _⟩ := hr
 rcases (h.own i p hp).2 with ⟨e1, _⟩ | ⟨g, cap, cur, e1, _, hg, _⟩
 ·rw [e1] at e; cases e
 ·rw [e1] at e
  obtain rfl : g = r := Option.some.inj e
  rw [hi] at hg
  cases hg
theorem Ranges.iter {α β : Type} {W : World} {b r : Nat} {ek : α → Value} {ev : β → Value} {Ok : α → Prop} {l left : List (α × β)} (h : Ranges W b r ek ev Ok l left) : ∃ x y z u, W.heap[r]? = some (.mapIter x y z u) := by
 obtain ⟨es, c, since, seen, c0, _, _, _, _, ho, _⟩ := h
 exact ⟨_, _, _, _, ho⟩
structure Bes (w : World) (b m1 r : Nat) (io : Array Value) (l' : List PV) (left : List (Int × PV)) (A6 : Option Addr) (cs : List (Int × Int)) (W : World) : Prop where
 rng : Ranges W m1 r iv rvV In64 (ringL l') left
 grow : w.grownBy W (some b)
 idx : W.heap[b]? = some (.cells io 78 (0, 0))
 items : Items W W.heap.size A6 encP cs
 ty : ∀ ad, A6 = some ad → ∃ cells fz, W.heap[ad.block]? = some (.cells cells 95 fz)
section
variable {w W W' : World} {b m1 r m3 : Nat} {io : Array Value} {l' : List PV} {left : List (Int × PV)} {A6 : Option Addr} {cs : List (Int × Int)} {L : List CRow}
theorem Bes.other (h : Bes w b m1 r io l' left A6 cs W) {row : Option Nat} (hg : W.grownBy W' row) (h1 : ∀ k, row = some k → k ≠ m1 ∧ k ≠ r ∧ k ≠ b ∧ w.heap.size ≤ k ∧ ∀ ad, A6 = some ad → k ≠ ad.block) : Bes w b m1 r io l' left A6 cs W' where
 rng := h.rng.kept hg (fun e => (h1 m1 e.symm).1 rfl) (fun e => (h1 r e.symm).2.1 rfl)
 grow := grow_far h.grow hg (fun k e => (h1 k e).2.2.2.1)
 idx := (hg.block b (blk_lt h.idx) (fun e => (h1 b e.symm).2.2.1 rfl)).trans h.idx
 items := (h.items.but hg (fun ad e e2 => (h1 ad.block e2).2.2.2.2 ad e rfl)).wide hg.size
 ty := fun ad e => by
  obtain ⟨cells, fz, hc⟩ := h.ty ad e
  exact ⟨cells, fz, (hg.block _ (blk_lt hc) (fun e2 => (h1 ad.block e2.symm).2.2.2.2 ad e rfl)).trans hc⟩
theorem Bes.alloc (h : Bes w b m1 r io l' left A6 cs W) (o : Obj) : Bes w b m1 r io l' left A6 cs (W.alloc o) := h.other (World.grownBy_alloc W o none) (fun k e => by cases e)
theorem Bes.drew (h : Bes w b m1 r io l' left A6 cs W) : Bes w b m1 r io l' left A6 cs W.drew := h.other (row := none) ⟨rfl, rfl, rfl, Nat.le_refl _, fun _ _ _ => rfl⟩ (fun k e => by cases e)
theorem map_blk (hm : MapIs W m3 pv cvV OkP L) : ∃ es c, W.heap[m3]? = some (.map es c) := by
 obtain ⟨es, c, h, _⟩ := hm
 exact ⟨es, c, h⟩
theorem Bes.row (h : Bes w b m1 r io l' left A6 cs W) {v : Value} {n : Nat} {xs : List Value} (hr : W.ownsRow w.heap.size 3 1 v n xs) (hg : W.grownBy W' v.ownBlock) : Bes w b m1 r io l' left A6 cs W' :=
 h.other hg (fun k e => by
  rcases hr.2 with ⟨e1, _⟩ | ⟨g, cap, cur, e1, hb, hgg, _⟩
  ·rw [e1] at e; cases e
  ·rw [e1] at e
   obtain rfl : g = k := Option.some.inj e
   obtain ⟨es, c, hm1, _⟩ := h.rng.isMap
   obtain ⟨x, y, z, u, ho⟩ := h.rng.iter
   have hi := h.idx
   refine ⟨fun e2 => ?_, fun e2 => ?_, fun e2 => ?_, hb, fun ad ha e2 => ?_⟩
   ·rw [e2, hm1] at hgg; cases hgg
   ·rw [e2, ho] at hgg; cases hgg
   ·rw [e2, hi] at hgg; cases hgg
   ·obtain ⟨cells, fz, hc⟩ := h.ty ad ha
    rw [e2, hc] at hgg; cases hgg)
theorem Bes.map (h : Bes w b m1 r io l' left A6 cs W) (hm : ∃ es c, W.heap[m3]? = some (.map es c)) (hne : m3 ≠ m1) (hw : w.heap.size ≤ m3) (hg : W.grownBy W' (some m3)) : Bes w b m1 r io l' left A6 cs W' :=
 h.other hg (fun k e => by
  obtain rfl : m3 = k := Option.some.inj e
  obtain ⟨es, c, hm3⟩ := hm
  obtain ⟨x, y, z, u, ho⟩ := h.rng.iter
  have hi := h.idx
  refine ⟨hne, fun e2 => ?_, fun e2 => ?_, hw, fun ad ha e2 => ?_⟩
  ·rw [e2, ho] at hm3; cases hm3
  ·rw [e2, hi] at hm3; cases hm3
  ·obtain ⟨cells, fz, hc⟩ := h.ty ad ha
   rw [e2, hc] at hm3; cases hm3)
theorem OwnRw.map (h : OwnRw w W L) (hm : ∃ es c, W.heap[m3]? = some (.map es c)) (hg : W.grownBy W' (some m3)) : OwnRw w W' L := h.but hg (fun i p hp => .inr fun e => by
 obtain ⟨es, c, hm3⟩ := hm
 rcases (h.own i p hp).2 with ⟨e1, _⟩ | ⟨g, cap, cur, e1, _, hgg, _⟩
 ·rw [e1] at e; cases e
 ·rw [e1] at e
  obtain rfl : g = m3 := Option.some.inj e
  rw [hm3] at hgg; cases hgg)
theorem row_not_map {v : Value} {n : Nat} {xs : List Value} (hr : W.ownsRow w.heap.size 3 1 v n xs) (hm : ∃ es c, W.heap[m3]? = some (.map es c)) : some m3 ≠ v.ownBlock := fun e => by
 obtain ⟨es, c, hm3⟩ := hm
 rcases hr.2 with ⟨e1, _⟩ | ⟨g, cap, cur, e1, _, hgg, _⟩
 ·rw [e1] at e; cases e
 ·rw [e1] at e
  obtain rfl : m3 = g := Option.some.inj e
  rw [hm3] at hgg; cases hgg
theorem OwnRw.alloc (h : OwnRw w W L) (o : Obj) : OwnRw w (W.alloc o) L := h.but (row := none) (World.grownBy_alloc W o none) (fun i p _ => by
 cases e : (cvV p.2).ownBlock with
 |none => exact .inl rfl
 |some g => exact .inr (by simp))
theorem OwnRw.drew (h : OwnRw w W L) : OwnRw w W.drew L := h.but (row := none) ⟨rfl, rfl, rfl, Nat.le_refl _, fun _ _ _ => rfl⟩ (fun i p _ => by
 cases e : (cvV p.2).ownBlock with
 |none => exact .inl rfl
 |some g => exact .inr (by simp))
theorem box_map {g : Nat} {C : Array Value} {T : TypeId} {fz : Nat × Nat} (h : W.heap[g]? = some (.cells C T fz)) (hm : ∃ es c, W.heap[m3]? = some (.map es c)) (hg : W.grownBy W' (some m3)) : W'.heap[g]? = some (.cells C T fz) :=
 (hg.block g (blk_lt h) (fun e => by
  obtain rfl := Option.some.inj e
  obtain ⟨es, c, hm3⟩ := hm
  rw [h] at hm3; cases hm3)).trans h
theorem box_row {g : Nat} {C : Array Value} {T : TypeId} {fz : Nat × Nat} (h : W.heap[g]? = some (.cells C T fz)) (hT : T ≠ 3) {v : Value} {n : Nat} {xs : List Value} (hr : W.ownsRow w.heap.size 3 1 v n xs) (hg : W.grownBy W' v.ownBlock) : W'.heap[g]? = some (.cells C T fz) :=
 (hg.block g (blk_lt h) (fun e => by
  rcases hr.2 with ⟨e1, _⟩ | ⟨k, cap, cur, e1, _, hgg, _⟩
  ·rw [e1] at e; cases e
  ·rw [e1] at e
   obtain rfl : g = k := Option.some.inj e
   rw [h] at hgg
   injection hgg with hgg
   injection hgg with _ e3 _
   exact hT e3)).trans h
theorem box_alloc {g : Nat} {o' : Obj} (h : W.heap[g]? = some o') (o : Obj) : (W.alloc o).heap[g]? = some o' := (Below.heap_alloc W o g (blk_lt h)).trans h
theorem rows_len {L2 L1 : List CRow} {c0 : Int × Int} {N : Nat} (hK : (rowsOf L2 c0).length ≤ N) (h1 : L1 = L2 ∨ (c0 ∉ L2.map Prod.fst ∧ L1 = L2 ++ [(c0, cv0)])) (hnd : (L1.map Prod.fst).Nodup) {j : Nat} {p : CRow} (hj : L1[j]? = some p) (hp : p.1 = c0) : p.2.1.length ≤ N := by
 rw [← rowsOf_at hnd hj, hp]
 rcases h1 with rfl | ⟨-, rfl⟩
 ·exact hK
 ·rw [rowsOf_more]; exact hK
theorem rows_step {L L2 L1 : List CRow} {cs : List (Int × Int)} {k : Nat} (hlt : k < cs.length) (hn : cs.Nodup) {id : Int} {c0 : Int × Int} (hc0 : cs[k] = c0) (hK : ∀ c, rowsOf L2 c = rowsOf L c ++ (if c ∈ cs.take k then [id] else [])) (h1 : L1 = L2 ∨ (c0 ∉ L2.map Prod.fst ∧ L1 = L2 ++ [(c0, cv0)])) {j : Nat} {p : CRow} (hj : L1[j]? = some p) (hp : p.1 = c0) (hnd : (L1.map Prod.fst).Nodup) {r' : List Int × Option Addr × Nat} (hr : r'.1 = p.2.1 ++ [id]) :
  ∀ c, rowsOf (L1.set j (p.1, r')) c = rowsOf L c ++ (if c ∈ cs.take (k + 1) then [id] else []) := fun c => by
 have hsame : ∀ c, rowsOf L1 c = rowsOf L2 c := fun c => by
  rcases h1 with rfl | ⟨-, rfl⟩
  ·rfl
  ·exact rowsOf_more _ _ _
 have hno : c0 ∉ cs.take k := fun h => by
  rw [← hc0] at h
  obtain ⟨i, hi, e⟩ := List.getElem_of_mem h
  rw [List.getElem_take] at e
  rw [List.length_take] at hi
  have := (List.getElem_inj (h₀ := by omega) (h₁ := hlt) hn).1 e
  omega
 rw [rowsOf_set r' c hnd hj, List.take_succ_eq_append_getElem hlt, hc0]
 by_cases e : p.1 = c
 ·have e' : c = c0 := e.symm.trans hp
  subst e'
  rw [if_pos e, hr, ← rowsOf_at hnd hj, e, hsame, hK, if_neg hno, List.append_nil, if_pos (by simp)]
 ·rw [if_neg e, hsame, hK]
  have : c ∈ cs.take k ++ [c0] ↔ c ∈ cs.take k := by
   rw [List.mem_append, List.mem_singleton]
   exact ⟨fun h => h.resolve_right (fun h => e (hp.trans h.symm)), .inl⟩
  simp only [this]
end
set_option maxRecDepth 100000 in
set_option maxHeartbeats 4000000 in
theorem order_any (b m1 m2 : Nat) (d s q v : Value) (n : Int) (l' : List PV) (w : World) (hb : w.heap[b]? = some (.cells #[.map (some m1), .map (some m2), d, s, q, v, .int .i64 n] 78 (0, 0))) (hm : MapIs w m1 iv rvV In64 (ringL l'))
  (hr : ∀ x ∈ l', Pts w w.heap.size x.A x.par.ring ∧ x.par.ring.length ≤ maxLen ∧ ∀ ad, x.A = some ad → some b ≠ some ad.block) (hne : m1 ≠ b) (hl : l'.length ≤ 1000)
  (cf : PV → List (Int × Int)) (hcs : ∀ x ∈ l', (cf x).Nodup ∧ (∀ c ∈ cf x, OkP c) ∧ (cf x).length ≤ 1000000)
  (hcell : ∀ x ∈ l', ∀ W, Pts W W.heap.size x.A x.par.ring → Calls Tryz.prog 87 #[rvV x] W fun e w' => ∃ v u, e = .returned (.tuple #[v, u]) ∧ RowI W 95 2 encP v (cf x) w') :
  Calls Tryz.prog 63 #[.pointer (some ⟨b, 0, none⟩)] w fun e W => e = .returned (.tuple #[]) ∧ w.grownBy W (some b) ∧ ∃ m3 L, W.heap[b]? = some (.cells #[.map (some m1), .map (some m2), d, s, q, (.map (some m3)), .int .i64 n] 78 (0, 0)) ∧ MapIs W m3 pv cvV OkP L ∧ OwnRw w W L ∧ ∀ c, (rowsOf L c).Perm (idsIn cf (ringL l') c) := by
 have hmm := @run_makeMap Tryz.prog
 have hbl := blk_lt hb
 have HML := hm.lt
 have f5 := blk_frozen hb 5
 have k0 := blk_cell hb 0
 have k5 := blk_cell hb 5
 have hs := World.size_setCell w ⟨b, 5, none⟩ (.map (some w.heap.size))
 have hx0 : (w.setCell ⟨b, 5, none⟩ (.map (some w.heap.size))).heap[b]? = some (.cells #[.map (some m1), .map (some m2), d, s, q, (.map (some w.heap.size)), .int .i64 n] 78 (0, 0)) := by
  have h := heap_setCell_same _ b 5 _ _ (Value.map (some w.heap.size)) hb
  simpa using h
 have hbx := ((Below.refl _ (w.setCell ⟨b, 5, none⟩ (.map (some w.heap.size)))).alloc (Nat.le_refl _) (.map #[] 0)).block _ (blk_lt hx0) |>.trans hx0
 have hm3 : MapIs ((w.setCell ⟨b, 5, none⟩ (.map (some w.heap.size))).alloc (.map #[] 0)) w.heap.size pv cvV OkP ([] : List CRow) := by
  have h := MapIs.made (ek := pv) (ev := cvV) (Ok := OkP) (w.setCell ⟨b, 5, none⟩ (.map (some w.heap.size)))
  rw [hs] at h
  exact h
 have hm1 : MapIs ((w.setCell ⟨b, 5, none⟩ (.map (some w.heap.size))).alloc (.map #[] 0)) m1 iv rvV In64 (ringL l') := (hm.setCell hne _).alloc _
 have j0 := blk_cell hbx 0
 have hga : w.grownBy (w.setCell ⟨b, 5, none⟩ (.map (some w.heap.size))) (some b) := ⟨rfl, rfl, rfl, by rw [World.size_setCell]; exact Nat.le_refl _, fun k _ hk => RowKit.Below.heap_setCell _ _ _ _ (fun e => hk (by rw [e]))⟩
 have hg1 : w.grownBy ((w.setCell ⟨b, 5, none⟩ (.map (some w.heap.size))).alloc (.map #[] 0)) (some b) := hga.trans (World.grownBy_alloc _ (.map #[] 0) (some b))
 go_enter Tryz.func63, Tryz.ntmps63
 go_upto_region 1 with (fail)
 clear hmm f5 k0 k5 hb hs hx0 hga
 generalize (World.alloc _ _) = W1 at hm3 hm1 j0 hg1 hbx ⊢
 obtain ⟨m3, hm3e⟩ : ∃ m, w.heap.size = m := ⟨_, rfl⟩
 have HM3E : Hid (w.heap.size = m3) := hm3e
 rw [hm3e] at hm3 hbx ⊢
 clear hm3e
 go_wp2_with (at_range; refine wp_range rfl _ 59 rfl 3 23 Tryz.underlying59 m1 rfl hm1 ?_; intro W2 HR2 hg2 hs2)
 go_frame
 have HS2 := hm3.kept hg2 (by simp)
 have HG2 := hg1.trans (World.grownBy.trans (World.grownBy.refl _ _) ⟨hg2.os, hg2.tape, hg2.output, hg2.size, fun k hk _ => hg2.block k hk (by simp)⟩)
 have HX2 := (hg2.block b (blk_lt hbx) (by simp)).trans hbx
 have HO2 : OwnRw w W2 [] := OwnRw.nil _ _
 have HRB : Hid (m3 < W1.heap.size ∧ b < W1.heap.size ∧ w.heap.size ≤ W1.heap.size) := ⟨hm3.lt, blk_lt hbx, hg1.size⟩
 clear hm3 hm1 j0 hg1 hbx hg2 hs2
 generalize W1.heap.size = r at *
 have HR := Lib.hid hr
 have HCS := Lib.hid hcs
 have HCE := Lib.hid hcell
 have HMB : Hid (m1 < w.heap.size ∧ b < w.heap.size ∧ m1 ≠ b) := ⟨HML, hbl, hne⟩
 clear hr hcs hcell HML hbl hne hm
 go_loopg [] (ringL l').length (fun g wr => ∃ left L, g = left.length ∧ Ranges wr m1 r iv rvV In64 (ringL l') left ∧ MapIs wr m3 pv cvV OkP L ∧ OwnRw w wr L ∧ (∀ c, (rowsOf L c ++ idsIn cf left c).Perm (idsIn cf (ringL l') c)) ∧ w.grownBy wr (some b) ∧ wr.heap[b]? = some (.cells #[.map (some m1), .map (some m2), d, s, q, (.map (some m3)), .int .i64 n] 78 (0, 0)))
 case atStart => exact ⟨ringL l', [], rfl, HR2, HS2, HO2, fun c => List.Perm.refl _, HG2, HX2⟩
 case round =>
  clear HR2 HS2 HO2 HG2 HX2
  obtain ⟨left, L, hgl, HRn, HM, HO, HP, HG, HX⟩ := hrel
  have HGL := Lib.hid hgl
  have HRS := Lib.hid HRn
  have HMS := Lib.hid HM
  have HOS := Lib.hid HO
  have HPS := Lib.hid HP
  have HGS := Lib.hid HG
  have HXS := Lib.hid HX
  clear hgl HRn HM HO HP HG HX
  go_wp2_with (
   (at_next; refine wp_next rfl _ rfl r rfl HRS.out ?_ (fun l1 p l2 W5 hl hrg hg5 hs5 hen => ?_); rotate_left; (simp only [iv, rvV] at hen ⊢); (have HL := Lib.hid hl); (have HRG := Lib.hid hrg); (have HG5 := Lib.hid hg5); clear hl hrg hg5 hs5; rotate_left))
  ·intro hnil
   have HPN : Hid (∀ c, (rowsOf L c).Perm (idsIn cf (ringL l') c)) := fun c => by
    have := HPS.out c
    rw [hnil] at this
    simpa [idsIn] using this
   clear hnil HPS
   go_wp2
   go_end0
   exact ⟨rfl, HGS.out, m3, L, HXS.out, HMS.out, HOS.out, HPN.out⟩
  ·have hrg := HRG.out
   have hg5 := HG5.out
   obtain ⟨id, x⟩ := p
   have hpe : (id, x) ∈ ringL l' := by
    obtain ⟨es, c, since, seen, c0, _, _, _, _, _, _, _, _, _, hsub⟩ := HRS.out
    exact hsub.subset (by rw [HL.out]; exact List.mem_append_right _ List.mem_cons_self)
   have hxl : x ∈ l' := by
    unfold ringL at hpe
    obtain ⟨y, hy, e⟩ := List.mem_map.1 hpe
    obtain rfl := congrArg Prod.snd e
    exact hy
   have HID : Hid (In64 id) := by
    obtain ⟨es, c, _, _, _, hok⟩ := hrg.isMap
    exact hok _ hpe
   have HRX := Lib.hid (HR.out x hxl)
   have HCX := Lib.hid (HCS.out x hxl)
   have HCL := Lib.hid (HCE.out x hxl)
   have HG5' := Lib.hid (grow_far HGS.out hg5 (fun k e => by have := HRB.out; have := Option.some.inj e; omega))
   have HM5 := Lib.hid (HMS.out.kept hg5 (fun e => by have := HRB.out; have := Option.some.inj e; omega))
   have HO5 := Lib.hid (HOS.out.but hg5 (iter_row HOS.out HRS.out))
   have HX5 := Lib.hid ((hg5.block b (blk_lt HXS.out) (fun e => by have := HRB.out; have := Option.some.inj e; omega)).trans HXS.out)
   have HPT : Hid (∀ W, w.grownBy W (some b) → Pts W W.heap.size x.A x.par.ring) := fun W hg => Pts.but HRX.out.1 hg HRX.out.2.2
   clear hrg hg5 hpe hxl hen
   go_wp2_with fail
   go_at_call 87
   refine (HCL.out _ (HPT.out _ HG5'.out)).mono ?_
   rintro e' W6 ⟨v6, u6, rfl, hv⟩
   obtain ⟨A6, c6, rfl, hi6, -⟩ := hv.items
   have HI6 := Lib.hid hi6
   have HG6 := Lib.hid (grow_far HG5'.out (row2 := none) ⟨hv.1.os, hv.1.tape, hv.1.output, hv.1.size, fun k hk _ => hv.1.block k hk⟩ (fun k e => by cases e))
   have HM6 := Lib.hid (HM5.out.on hv.1 HM5.out.lt)
   have HR6 := Lib.hid (HRG.out.on hv.1 HRG.out.isMap.lt HRG.out.lt)
   have HO6 := Lib.hid (HO5.out.but (W' := W6) (row := none) ⟨hv.1.os, hv.1.tape, hv.1.output, hv.1.size, fun k hk _ => hv.1.block k hk⟩ (fun i p hp => by
    cases e : (cvV p.2).ownBlock with
    |none => exact .inl rfl
    |some g => exact .inr (by simp)))
   have HX6 := Lib.hid ((hv.1.block b (blk_lt HX5.out)).trans HX5.out)
   have HTY : Hid (∀ ad, A6 = some ad → ∃ cells fz, W6.heap[ad.block]? = some (.cells cells 95 fz)) := fun ad e => by
    rcases hv.2.2 with ⟨e1, _⟩ | ⟨g, cap, cur, e1, _, hg, _⟩
    ·rw [e] at e1; cases e1
    ·rw [e] at e1
     injection e1 with e2
     obtain rfl := Option.some.inj e2
     exact ⟨_, _, hg⟩
   have HTK0 : Hid (∀ c, rowsOf L c = rowsOf L c ++ (if c ∈ (cf x).take 0 then [id] else [])) := fun c => by simp
   have b6 : ((cf x).length : Int) ≤ 1000000 := by have := HCX.out.2.2; omega
   clear hv hi6
   go_wp2_with fail
   go_loopg [29] (cf x).length (fun g i wr2 => ∃ (k : Nat) (L2 : List CRow), k ≤ (cf x).length ∧ g = (cf x).length - k ∧ i = .int .i64 k ∧ Ranges wr2 m1 r iv rvV In64 (ringL l') (l1 ++ l2) ∧ MapIs wr2 m3 pv cvV OkP L2 ∧ OwnRw w wr2 L2 ∧ (∀ c, rowsOf L2 c = rowsOf L c ++ (if c ∈ (cf x).take k then [id] else [])) ∧ w.grownBy wr2 (some b) ∧ wr2.heap[b]? = some (.cells #[.map (some m1), .map (some m2), d, s, q, (.map (some m3)), .int .i64 n] 78 (0, 0)) ∧ Items wr2 wr2.heap.size A6 encP (cf x) ∧ (∀ ad, A6 = some ad → ∃ cells fz, wr2.heap[ad.block]? = some (.cells cells 95 fz)))
   case atStart => exact ⟨0, L, Nat.zero_le _, rfl, rfl, HR6.out, HM6.out, HO6.out, HTK0.out, HG6.out, HX6.out, HI6.out, HTY.out⟩
   case round =>
    obtain ⟨k, L2, hk, hgk, rfl, HR7, HM7, HO7, HK7, HG7, HX7, HI7, HT7⟩ := hrel
    have HGK := Lib.hid hgk
    clear hgk
    by_cases hlt : k < (cf x).length
    ·have HB7 := Lib.hid (show Bes w b m1 r #[.map (some m1), .map (some m2), d, s, q, (.map (some m3)), .int .i64 n] l' (l1 ++ l2) A6 (cf x) wr from ⟨HR7, HG7, HX7, HI7, HT7⟩)
     obtain ⟨ad, rfl, hadb, hc0, hcc⟩ := Items.at kindC.len HI7 hlt
     have d0 := hc0 _ (by decide) rfl
     have d1 := hcc 1 _ (by decide) (by decide) rfl
     have b0 : (0 : Int) ≤ (k : Int) := by omega
     have b1 : (k : Int) < ((cf x).length : Int) := by omega
     obtain ⟨c, hce⟩ : ∃ c, (cf x)[k] = c := ⟨_, rfl⟩
     rw [hce] at d0 d1
     have HCE2 := Lib.hid hce
     have HOK : Hid (OkP c) := by rw [← hce]; exact HCX.out.2.1 _ (List.getElem_mem hlt)
     have HLT := Lib.hid hlt
     have HMN : Hid (m3 ≠ m1 ∧ w.heap.size ≤ m3) := by
      have h1 := HM3E.out
      have h2 := HMB.out
      exact ⟨by omega, by omega⟩
     have HBD : Hid ((rowsOf L2 c).length ≤ 1000000) := by
      have h1 := (HPS.out c).length_eq
      have h2 : (idsIn cf (ringL l') c).length ≤ l'.length := by
       unfold idsIn ringL
       rw [List.length_map]
       exact Nat.le_trans (List.length_filter_le _ _) (Nat.le_of_eq (List.length_map ..))
      have h3 : (if c ∈ (cf x).take k then [id] else []).length ≤ 1 := by split <;> simp
      unfold Hid
      rw [HK7 c, List.length_append]
      rw [List.length_append] at h1
      omega
     have HMq := Lib.hid HM7
     have HOq := Lib.hid HO7
     have HKq := Lib.hid HK7
     clear hc0 hcc hadb hce HR7 HM7 HO7 HK7 HG7 HX7 HI7 HT7
     go_upto_region 8 with (fail)
     have hB5 := (HB7.out.alloc (Obj.cells #[.int .i64 c.1, .int .i64 c.2] 95 (0, 0))).drew
     have hM5 := (HMq.out.alloc (Obj.cells #[.int .i64 c.1, .int .i64 c.2] 95 (0, 0))).drew
     have hO5 := (HOq.out.alloc (Obj.cells #[.int .i64 c.1, .int .i64 c.2] 95 (0, 0))).drew
     have hE5 : (World.drew (wr.alloc (Obj.cells #[.int .i64 c.1, .int .i64 c.2] 95 (0, 0)))).heap[wr.heap.size]? = some (Obj.cells #[.int .i64 c.1, .int .i64 c.2] 95 (0, 0)) := heap_alloc_new wr _
     clear d0 d1
     generalize (World.alloc _ _) = W5 at hB5 hM5 hO5 hE5 ⊢
     generalize wr.heap.size = ge at hE5 ⊢
     have HB5 := Lib.hid hB5
     have HM5' := Lib.hid hM5
     have HO5' := Lib.hid hO5
     have HE5 := Lib.hid hE5
     clear hB5 hM5 hO5 hE5 HB7 HMq HOq
     have HSS : Hid (∀ W : World, W.heap[b]? = some (.cells #[.map (some m1), .map (some m2), d, s, q, (.map (some m3)), .int .i64 n] 78 (0, 0)) → W.heap[ge]? = some (.cells #[.int .i64 c.1, .int .i64 c.2] 95 (0, 0)) → W.cell? ⟨b, 5, none⟩ = some (.map (some m3)) ∧ W.cell? ⟨ge, 0, none⟩ = some (.int .i64 c.1) ∧ W.cell? ⟨ge, 1, none⟩ = some (.int .i64 c.2)) := fun W h1 h2 => ⟨blk_cell h1 5, blk_cell h2 0, blk_cell h2 1⟩
     refine wp_region_held_drew (S := fun W => W.cell? ⟨b, 5, none⟩ = some (.map (some m3)) ∧ W.cell? ⟨ge, 0, none⟩ = some (.int .i64 c.1) ∧ W.cell? ⟨ge, 1, none⟩ = some (.int .i64 c.2)) (by kernel_rfl) ?_ (fun hHeld => ?_)
     ·(try dsimp only)
      exact HSS.out _ HB5.out.idx HE5.out
     generalize (World.drew _) = Wd at HB5 HM5' HO5' HE5 hHeld ⊢
     refine tZ 0 ?_; refine tZ 1 ?_; refine tZ 2 ?_; refine tZ 3 ?_; refine tZ 4 ?_; refine tZ 5 ?_
     refine wpAnyH_ready (rs := [6]) (by decide +kernel) (by simp) ?_
     refine AllReadyH.cons rfl (fun K hK => ?_) AllReadyH.nil
     ·(try simp only [jA, jB, jC])
      go_simp
      have hB6 := HB5.out.alloc (Obj.cells #[.int .i64 id] 3 (0, 0))
      have hM6 := HM5'.out.alloc (Obj.cells #[.int .i64 id] 3 (0, 0))
      have hO6 := HO5'.out.alloc (Obj.cells #[.int .i64 id] 3 (0, 0))
      have hE6 := box_alloc HE5.out (Obj.cells #[.int .i64 id] 3 (0, 0))
      have hI6 := heap_alloc_new Wd (Obj.cells #[.int .i64 id] 3 (0, 0))
      refine hK.out _ _ ?_ (fun hHeld => ?_)
      focus ((try dsimp only); exact HSS.out _ hB6.idx hE6; done)
      clear hK K
      (try simp only [Act.put, jA, jB, jC, jD, jE, jF])
      generalize (World.alloc _ _) = W6' at hB6 hM6 hO6 hE6 hI6 hHeld ⊢
      generalize Wd.heap.size = gi at hI6 ⊢
      have HB6 := Lib.hid hB6
      have HM6' := Lib.hid hM6
      have HO6' := Lib.hid hO6
      have HE6 := Lib.hid hE6
      have HI6' := Lib.hid hI6
      clear hB6 hM6 hO6 hE6 hI6 HB5 HM5' HO5' HE5
      refine wpAnyH_ready (rs := [7]) (by decide +kernel) (by simp) ?_
      refine AllReadyH.cons rfl (fun K hK => ?_) AllReadyH.nil
      refine step_entryF (z := cv0) (k := c) 73 36 keyC Tryz.underlying73 zeroC HM6'.out HOK.out (by rfl) _ _ (by rfl) (by rfl) (by rfl) ?_
      intro st W7 L1 j p hL1 hjp hpc hS7 hg7
      have hB7 := HB6.out.map (map_blk HM6'.out) HMN.out.1 HMN.out.2 hg7
      have hO7 := HO6'.out.map (map_blk HM6'.out) hg7
      have hE7 := box_map HE6.out (map_blk HM6'.out) hg7
      have hO7' : OwnRw w W7 L1 := by
       rcases hL1 with rfl | ⟨-, rfl⟩
       ·exact hO7
       ·exact hO7.more c
      have hI7 := box_map HI6'.out (map_blk HM6'.out) hg7
      refine hK.out _ _ ?_ (fun hHeld => ?_)
      focus ((try dsimp only); exact HSS.out _ hB7.idx hE7; done)
      clear hK K
      (try simp only [Act.put, jA, jB, jC, jD, jE, jF])
      clear HB6 HM6' HO6' HE6 HI6'
      have HB8 := Lib.hid hB7
      have HS8 := Lib.hid hS7
      have HO8 := Lib.hid hO7'
      have HE8 := Lib.hid hE7
      have HI8 := Lib.hid hI7
      have HJP := Lib.hid hjp
      have HPC := Lib.hid hpc
      have HL1 := Lib.hid hL1
      clear hB7 hS7 hO7 hO7' hE7 hI7 hjp hpc hL1 hg7
      refine tZ 8 ?_; refine tZ 10 ?_
      refine wpAnyH_ready (rs := [9]) (by decide +kernel) (by simp) ?_
      refine AllReadyH.cons rfl (fun K hK => ?_) AllReadyH.nil
      refine step_append_one p.2 (HO8.out.own j p HJP.out) (HB8.out.grow.size) id ⟨gi, 0, none⟩ 1 (blk_cell HI8.out 0) ?hn (by rfl) _ _ (by rfl) (by rfl) (by rfl) ?_
      case hn => exact rows_len HBD.out HL1.out HS8.out.isMap.nodup HJP.out HPC.out
      intro r' W9 hr1 hr2 hg9 hat9
      have hown := HO8.out.own j p HJP.out
      have hB9 := HB8.out.row hown hg9
      have hO9 := HO8.out.grow HJP.out hg9 hr2 (hat9.imp_right fun e => ⟨_, e, Nat.le_refl _⟩)
      have hE9 := box_row HE8.out (show (95 : Nat) ≠ 3 by decide) hown hg9
      have hS9 := HS8.out.kept hg9 (row_not_map hown (map_blk HS8.out.isMap))
      refine hK.out _ _ ?_ (fun hHeld => ?_)
      focus ((try dsimp only); exact HSS.out _ hB9.idx hE9; done)
      clear hK K
      (try simp only [Act.put, jA, jB, jC, jD, jE, jF])
      have HB9 := Lib.hid hB9
      have HO9 := Lib.hid hO9
      have HE9 := Lib.hid hE9
      have HS9 := Lib.hid hS9
      have HRN := Lib.hid hr1
      clear hB9 hO9 hE9 hS9 hr1 hr2 hg9 hat9 hown HB8 HO8 HE8 HI8
      refine wpAnyH_ready (rs := [11]) (by decide +kernel) (by simp) ?_
      refine AllReadyH.cons rfl (fun K hK => ?_) AllReadyH.nil
      refine step_estoreF 73 HS9.out HJP.out r' (by rfl) _ _ _ (by rfl) (by rfl) (by rfl) (by rfl) ?_
      intro W11 hm11 hg11
      have hB11 := HB9.out.map (map_blk HS9.out.isMap) HMN.out.1 HMN.out.2 hg11
      have hO11 := HO9.out.map (map_blk HS9.out.isMap) hg11
      have hE11 := box_map HE9.out (map_blk HS9.out.isMap) hg11
      refine hK.out _ _ ?_ (fun hHeld => ?_)
      focus ((try dsimp only); exact HSS.out _ hB11.idx hE11; done)
      clear hK K
      (try simp only [Act.put, jA, jB, jC])
      have HB12 := Lib.hid hB11
      have HO12 := Lib.hid hO11
      have HM12 := Lib.hid hm11
      have HK12 := Lib.hid (rows_step HLT.out HCX.out.1 HCE2.out HKq.out HL1.out HJP.out HPC.out HS9.out.isMap.nodup HRN.out)
      clear hB11 hO11 hm11 hE11 hg11 HB9 HO9 HE9 HS9 HRN hHeld
      refine wpAnyH_done (by decide +kernel) ?_ _
      go_wp2_with fail
      go_roundg ((cf x).length - (k + 1))
      case measure => have := HGK.out; have := HLT.out; omega
      case rel => exact ⟨k + 1, _, by have := HLT.out; omega, rfl, by go_num, HB12.out.rng, HM12.out, HO12.out, HK12.out, HB12.out.grow, HB12.out.idx, HB12.out.items, HB12.out.ty⟩
    ·obtain rfl : k = (cf x).length := by omega
     rw [List.take_length] at HK7
     have HPF : Hid (∀ c, (rowsOf L2 c ++ idsIn cf (l1 ++ l2) c).Perm (idsIn cf (ringL l') c)) := fun c => by
      have h1 := HPS.out c
      rw [HL.out] at h1
      have h2 := idsIn_out cf l1 l2 (id, x) c
      rw [HK7 c, List.append_assoc]
      refine ((List.Perm.append_left _ List.perm_append_comm).trans ?_).trans h1
      exact List.Perm.append_left _ h2.symm
     have HLN : Hid ((l1 ++ l2).length < left.length) := by unfold Hid; rw [HL.out]; simp
     have HR8 := Lib.hid HR7
     have HM8 := Lib.hid HM7
     have HO8 := Lib.hid HO7
     have HG8 := Lib.hid HG7
     have HX8 := Lib.hid HX7
     clear HR7 HM7 HO7 HG7 HX7 HI7 HT7 HK7
     go_wp2_with fail
     go_roundg ((l1 ++ l2).length)
     case measure => have := HGL.out; have := HLN.out; omega
     case rel => exact ⟨l1 ++ l2, L2, rfl, HR8.out, HM8.out, HO8.out, HPF.out, HG8.out, HX8.out⟩
end Go.Proofs.YtoabooljgojoiabGreat

namespace Go.Proofs.YtoabooljgojoiabGreat
open Go.RowKit
theorem mem_idsIn {cf : PV → List (Int × Int)} {l' : List PV} {c : Int × Int} {i : Int} : i ∈ idsIn cf (ringL l') c ↔ ∃ x ∈ l', x.par.id = i ∧ c ∈ cf x := by
 unfold idsIn ringL
 rw [List.mem_map]
 constructor
 ·rintro ⟨p, hp, rfl⟩
  obtain ⟨h1, h2⟩ := List.mem_filter.1 hp
  obtain ⟨x, hx, rfl⟩ := List.mem_map.1 h1
  exact ⟨x, hx, rfl, by simpa using h2⟩
 ·rintro ⟨x, hx, rfl, hc⟩
  exact ⟨(x.par.id, x), List.mem_filter.2 ⟨List.mem_map.2 ⟨x, hx, rfl⟩, by simpa using hc⟩, rfl⟩
theorem found_eq {l' : List PV} (hs : l'.Pairwise fun a b => a.par.id < b.par.id) {cf : PV → List (Int × Int)} {cells : List (Int × Int)} {F : (Int × Int) → List Int} (hF : ∀ c, (F c).Perm (idsIn cf (ringL l') c)) {p : Int → Bool} {q : PV → Bool} (hpq : ∀ x ∈ l', p x.par.id = q x)
  (hcov : ∀ x ∈ l', q x = true → ∃ c ∈ cells, c ∈ cf x) : (tidyL (cells.flatMap F)).filter p = (l'.filter q).map fun x => x.par.id := by
 obtain ⟨t1, t2⟩ := tidy_says (cells.flatMap F)
 refine asc_ext (t1.sublist List.filter_sublist) ?_ fun i => ?_
 ·rw [List.pairwise_map]
  exact hs.sublist List.filter_sublist
 ·rw [List.mem_filter, t2, List.mem_flatMap, List.mem_map]
  constructor
  ·rintro ⟨⟨c, hc, hi⟩, hp⟩
   obtain ⟨x, hx, rfl, -⟩ := mem_idsIn.1 ((hF c).mem_iff.1 hi)
   exact ⟨x, List.mem_filter.2 ⟨hx, by rw [← hpq x hx]; exact hp⟩, rfl⟩
  ·rintro ⟨x, hx, rfl⟩
   obtain ⟨h1, h2⟩ := List.mem_filter.1 hx
   obtain ⟨c, hc, hcx⟩ := hcov x h1 h2
   exact ⟨⟨c, hc, (hF c).mem_iff.2 (mem_idsIn.2 ⟨x, h1, rfl, hcx⟩)⟩, by rw [hpq x h1]; exact h2⟩
end Go.Proofs.YtoabooljgojoiabGreat

namespace Go.Proofs.YtoabooljgojoiabGreat
open Go.RowKit
theorem set_grown (W : World) (b i : Nat) (v : Value) : W.grownBy (W.setCell ⟨b, i, none⟩ v) (some b) := ⟨rfl, rfl, rfl, by rw [World.size_setCell]; exact Nat.le_refl _, fun k _ hk => RowKit.Below.heap_setCell _ _ _ _ (fun e => hk (by rw [e]))⟩
def IdxN (W : World) (b m1 m2 : Nat) (n : Int) : Prop := ∃ q v, W.heap[b]? = some (.cells #[.map (some m1), .map (some m2), (.int .u32 0), (.int .i32 0), q, v, .int .i64 n] 78 (0, 0))
structure RingsOk (W : World) (b m1 : Nat) (l' : List PV) (cf : PV → List (Int × Int)) : Prop where
 map : MapIs W m1 iv rvV In64 (ringL l')
 pts : ∀ x ∈ l', Pts W W.heap.size x.A x.par.ring ∧ x.par.ring.length ≤ maxLen ∧ ∀ ad, x.A = some ad → some b ≠ some ad.block
 ne : m1 ≠ b
 few : l'.length ≤ 1000
 cells : ∀ x ∈ l', (cf x).Nodup ∧ (∀ c ∈ cf x, OkP c) ∧ (cf x).length ≤ 1000000
 calls : ∀ x ∈ l', ∀ W, Pts W W.heap.size x.A x.par.ring → Calls Tryz.prog 87 #[rvV x] W fun e w' => ∃ v u, e = .returned (.tuple #[v, u]) ∧ RowI W 95 2 encP v (cf x) w'
theorem RingsOk.but {W W' : World} {b m1 : Nat} {l' : List PV} {cf : PV → List (Int × Int)} (h : RingsOk W b m1 l' cf) (hg : W.grownBy W' (some b)) : RingsOk W' b m1 l' cf where
 map := h.map.kept hg (fun e => h.ne (Option.some.inj e))
 pts x hx := ⟨(h.pts x hx).1.but hg (h.pts x hx).2.2, (h.pts x hx).2⟩
 ne := h.ne
 few := h.few
 cells := h.cells
 calls := h.calls
theorem once_any (b m1 m2 : Nat) (n : Int) (l' : List PV) (cf : PV → List (Int × Int)) (W : World) (hr : RingsOk W b m1 l' cf) (h : IdxN W b m1 m2 n ∨ IdxD W b m1 m2 n (idsIn cf (ringL l'))) :
  Calls Tryz.prog 62 #[.pointer (some ⟨b, 2, none⟩), .func (.func 63) #[.pointer (some ⟨b, 0, none⟩)] #[]] W fun e W' => e = .returned (.tuple #[]) ∧ (W.grownBy W' (some b) ∧ IdxD W' b m1 m2 n (idsIn cf (ringL l'))) := by
 rcases h with ⟨q, v, hb⟩ | hd
 ·have hga := set_grown W b 3 (.int .i32 1)
  have hb1 : (W.setCell ⟨b, 3, none⟩ (.int .i32 1)).heap[b]? = some (.cells #[.map (some m1), .map (some m2), (.int .u32 0), (.int .i32 1), q, v, .int .i64 n] 78 (0, 0)) := by
   have h := heap_setCell_same _ b 3 _ _ (.int .i32 1) hb
   simpa using h
  have hr1 := hr.but hga
  have ho := order_any b m1 m2 (.int .u32 0) (.int .i32 1) q v n l' _ hb1 hr1.map hr1.pts hr1.ne hr1.few cf hr1.cells hr1.calls
  refine (once_first b _ W (blk_cell hb 2) (blk_cell hb 3) (blk_frozen hb 3) ho ?_).mono ?_
  ·rintro w1 ⟨-, m3, L, hx, -⟩
   exact ⟨blk_cell hx 2, blk_cell hx 3, blk_frozen hx 2, blk_frozen hx 3⟩
  ·rintro e w' ⟨rfl, w1, ⟨hg, m3, L, hx, hmm, how, hp⟩, rfl⟩
   have hgd : w1.grownBy w1.drew (some b) := ⟨rfl, rfl, rfl, Nat.le_refl _, fun _ _ _ => rfl⟩
   have hg2 := hgd.trans ((set_grown w1.drew b 2 (.int .u32 1)).trans (set_grown _ b 3 (.int .i32 0)))
   have hx1 : w1.drew.heap[b]? = _ := hx
   have hx2 : (w1.drew.setCell ⟨b, 2, none⟩ (.int .u32 1)).heap[b]? = some (.cells #[.map (some m1), .map (some m2), (.int .u32 1), (.int .i32 1), q, (.map (some m3)), .int .i64 n] 78 (0, 0)) := by
    have h := heap_setCell_same _ b 2 _ _ (.int .u32 1) hx1
    simpa using h
   have hx3 : ((w1.drew.setCell ⟨b, 2, none⟩ (.int .u32 1)).setCell ⟨b, 3, none⟩ (.int .i32 0)).heap[b]? = some (.cells #[.map (some m1), .map (some m2), (.int .u32 1), (.int .i32 0), q, (.map (some m3)), .int .i64 n] 78 (0, 0)) := by
    have h := heap_setCell_same _ b 3 _ _ (.int .i32 0) hx2
    simpa using h
   refine ⟨rfl, hga.trans (hg.trans hg2), q, .map (some m3), hx3, rowsOf L, hp, ?_⟩
   refine cellsAt_of (blk_lt hb1) (blk_cell hx3 5) (hmm.kept hg2 fun e => ?_) (how.but hg2 fun i p hi => ?_)
   ·obtain ⟨es, c, hm3⟩ := map_blk hmm
    obtain rfl := Option.some.inj e
    rw [hx] at hm3
    cases hm3
   ·rcases (how.own i p hi).2 with ⟨e1, _⟩ | ⟨g, cap, cur, e1, hb', _⟩
    ·exact .inl (by rw [e1]; rfl)
    ·refine .inr fun e => ?_
     rw [e1] at e
     have e2 : g = b := Option.some.inj e
     have := blk_lt hb1
     omega
 ·obtain ⟨q, v, hb, hc⟩ := hd
  refine (once_done b 1 (by decide) _ W (blk_cell hb 2)).mono ?_
  rintro e w' ⟨rfl, rfl⟩
  exact ⟨rfl, World.grownBy.refl _ _, q, v, hb, hc⟩
theorem IdxN.count {W : World} {b m1 m2 : Nat} {n : Int} (h : IdxN W b m1 m2 n) : IdxN (W.setCell ⟨b, 6, none⟩ (.int .i64 (n + 1))) b m1 m2 (n + 1) := by
 obtain ⟨q, v, hb⟩ := h
 refine ⟨q, v, ?_⟩
 have h := heap_setCell_same _ b 6 _ _ (.int .i64 (n + 1)) hb
 simpa using h
theorem IdxD.count {W : World} {b m1 m2 : Nat} {n : Int} {F : (Int × Int) → List Int} (h : IdxD W b m1 m2 n F) : IdxD (W.setCell ⟨b, 6, none⟩ (.int .i64 (n + 1))) b m1 m2 (n + 1) F := by
 obtain ⟨q, v, hb, F', hp, m3, L, h5, hm, hL⟩ := h
 have hx : (W.setCell ⟨b, 6, none⟩ (.int .i64 (n + 1))).heap[b]? = some (.cells #[.map (some m1), .map (some m2), (.int .u32 1), (.int .i32 0), q, v, .int .i64 (n + 1)] 78 (0, 0)) := by
  have h := heap_setCell_same _ b 6 _ _ (.int .i64 (n + 1)) hb
  simpa using h
 have hv : v = .map (some m3) := Option.some.inj ((blk_cell hb 5).symm.trans h5)
 have hne : m3 ≠ b := fun e => by
  obtain ⟨es, c, hm3⟩ := map_blk hm
  rw [e, hb] at hm3
  cases hm3
 refine ⟨q, v, hx, F', hp, m3, L, by rw [← hv]; exact blk_cell hx 5, hm.setCell hne _, fun c r hr => ?_⟩
 obtain ⟨h1, h2, h3, h4⟩ := hL c r hr
 exact ⟨h1, (h2.but (set_grown W b 6 _) h4).wide (set_grown W b 6 _).size, h3, h4⟩
def IdxS (W : World) (b m1 m2 : Nat) (n : Int) (F : (Int × Int) → List Int) : Prop := IdxN W b m1 m2 n ∨ IdxD W b m1 m2 n F
theorem IdxS.count {W : World} {b m1 m2 : Nat} {n : Int} {F : (Int × Int) → List Int} (h : IdxS W b m1 m2 n F) : IdxS (W.setCell ⟨b, 6, none⟩ (.int .i64 (n + 1))) b m1 m2 (n + 1) F := h.imp IdxN.count IdxD.count
theorem IdxS.on {W W' : World} {b m1 m2 : Nat} {n : Int} {F : (Int × Int) → List Int} (h : IdxS W b m1 m2 n F) (hb : Below W.heap.size W W') : IdxS W' b m1 m2 n F := by
 rcases h with ⟨q, v, h1⟩ | h
 ·exact .inl ⟨q, v, (hb.block _ (blk_lt h1)).trans h1⟩
 ·exact .inr (h.on hb)
theorem IdxS.block {W : World} {b m1 m2 : Nat} {n : Int} {F : (Int × Int) → List Int} (h : IdxS W b m1 m2 n F) : ∃ d q v, W.heap[b]? = some (.cells #[.map (some m1), .map (some m2), d, (.int .i32 0), q, v, .int .i64 n] 78 (0, 0)) := by
 rcases h with ⟨q, v, h1⟩ | ⟨q, v, h1, _⟩
 ·exact ⟨_, q, v, h1⟩
 ·exact ⟨_, q, v, h1⟩
end Go.Proofs.YtoabooljgojoiabGreat
