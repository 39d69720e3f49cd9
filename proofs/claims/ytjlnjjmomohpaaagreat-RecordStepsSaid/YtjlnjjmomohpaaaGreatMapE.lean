/- Maps of the call's own: their keys and elements as a list, in the order in which they were laid; what a look-up, a store, a range over one reads and leaves. -/
import Derived.Test.YtjlnjjmomohpaaaGreatHold
import Derived.Test.YtjlnjjmomohpaaaGreatPlane
import Derived.Maps.OwnSet
import Derived.Maps.RangeWalk
import Derived.DeepKeys4
import Derived.RangeFuncSeq
import Derived.WideKeyEntry
namespace Go.Proofs.YtjlnjjmomohpaaaGreat
open Go.RowKit Go.ChangeMaps Go.MapKept

structure KeyK {α : Type} (T : TypeId) (ek : α → Value) (Ok : α → Prop) : Prop where
 K : Go.Maps.Keyed Tryz.prog T
 lit : ∀ a, Ok a → ∃ l, keyOf Tryz.prog T (ek a) = some l
 inj : ∀ a b, ek a = ek b → a = b
def MapIs {α β : Type} (W : World) (b : Nat) (ek : α → Value) (ev : β → Value) (Ok : α → Prop) (l : List (α × β)) : Prop :=
 ∃ es clock, W.heap[b]? = some (.map es clock) ∧ es.toList.map (fun e => (e.key, e.val)) = l.map (fun p => (ek p.1, ev p.2)) ∧ Stamped es clock ∧ ∀ p ∈ l, Ok p.1
section
variable {α β : Type} {T : TypeId} {ek : α → Value} {ev : β → Value} {Ok : α → Prop} {W W' : World} {b : Nat} {l : List (α × β)}
theorem MapIs.made (w : World) : MapIs (w.alloc (.map #[] 0)) w.heap.size ek ev Ok ([] : List (α × β)) := ⟨#[], 0, heap_alloc_new w _, rfl, stamped_empty 0, fun _ h => by cases h⟩
theorem MapIs.lt (h : MapIs W b ek ev Ok l) : b < W.heap.size := by
 obtain ⟨es, c, hb, _⟩ := h
 exact blk_lt hb
theorem MapIs.at (h : MapIs W b ek ev Ok l) (hh : W'.heap[b]? = W.heap[b]?) : MapIs W' b ek ev Ok l := by
 obtain ⟨es, c, hb, r⟩ := h
 exact ⟨es, c, hh.trans hb, r⟩
theorem MapIs.on {B : Nat} (h : MapIs W b ek ev Ok l) (hb : Below B W W') (hlt : b < B) : MapIs W' b ek ev Ok l := h.at (hb.block _ hlt)
theorem MapIs.drew (h : MapIs W b ek ev Ok l) : MapIs W.drew b ek ev Ok l := h
theorem MapIs.alloc (h : MapIs W b ek ev Ok l) (o : Obj) : MapIs (W.alloc o) b ek ev Ok l := h.at (Below.heap_alloc W o b h.lt)
theorem MapIs.setCell (h : MapIs W b ek ev Ok l) {a : Addr} (ha : b ≠ a.block) (u : Value) : MapIs (W.setCell a u) b ek ev Ok l := h.at (RowKit.Below.heap_setCell _ _ _ _ ha)
theorem MapIs.kept {row : Option Nat} (h : MapIs W b ek ev Ok l) (hg : W.grownBy W' row) (hne : some b ≠ row) : MapIs W' b ek ev Ok l := h.at (hg.block b h.lt hne)
theorem entry_of {es : List MapEntry} (hl : es.map (fun e => (e.key, e.val)) = l.map (fun p => (ek p.1, ev p.2))) {e : MapEntry} (he : e ∈ es) : ∃ p ∈ l, e.key = ek p.1 ∧ e.val = ev p.2 := by
 have : (e.key, e.val) ∈ l.map (fun p => (ek p.1, ev p.2)) := hl ▸ List.mem_map.2 ⟨e, he, rfl⟩
 obtain ⟨p, hp, hh⟩ := List.mem_map.1 this
 exact ⟨p, hp, (congrArg Prod.fst hh).symm, (congrArg Prod.snd hh).symm⟩
theorem of_entry {es : List MapEntry} (hl : es.map (fun e => (e.key, e.val)) = l.map (fun p => (ek p.1, ev p.2))) {p : α × β} (hp : p ∈ l) : ∃ e ∈ es, e.key = ek p.1 ∧ e.val = ev p.2 := by
 have : (ek p.1, ev p.2) ∈ es.map (fun e => (e.key, e.val)) := hl ▸ List.mem_map.2 ⟨p, hp, rfl⟩
 obtain ⟨e, he, hh⟩ := List.mem_map.1 this
 exact ⟨e, he, congrArg Prod.fst hh, congrArg Prod.snd hh⟩
theorem MapIs.nodup (h : MapIs W b ek ev Ok l) : (l.map Prod.fst).Nodup := by
 obtain ⟨es, c, _, hl, hs, _⟩ := h
 have h3 := ((stamped_iff es c).1 hs).2.2
 have h4 : (es.toList.map (fun e => (e.key, e.val))).Pairwise (fun x y => x.1 ≠ y.1) := List.pairwise_map.2 h3
 rw [hl, List.pairwise_map] at h4
 exact List.pairwise_map.2 (h4.imp (fun h e => h (by rw [e])))
def Got (l : List (α × β)) (z : β) (a : α) (r : β × Bool) : Prop := (a ∉ l.map Prod.fst ∧ r = (z, false)) ∨ (r.2 = true ∧ (a, r.1) ∈ l)
variable {t e : TypeId}
theorem MapIs.look (h : MapIs W b ek ev Ok l) (K : KeyK T ek Ok) (ht : Tryz.prog.underlying t = some (.map T e)) {z : β} (hz : (zeroValue e).run Tryz.prog W = .ok (ev z) W) {a : α} (ha : Ok a) :
  ∃ r, Got l z a r ∧ (Instr.lookup t (.map (some b)) (ek a) true).run Tryz.prog W = .ok (.tuple #[ev r.1, .bool r.2]) W ∧ (Instr.lookup t (.map (some b)) (ek a) false).run Tryz.prog W = .ok (ev r.1) W := by
 obtain ⟨es, c, hb, hl, hs, hok⟩ := h
 obtain ⟨kl, hkey⟩ := K.lit a ha
 have hks : ∀ x ∈ es.toList, ∃ y, keyOf Tryz.prog T x.key = some y := fun x hx => by
  obtain ⟨p, hp, e1, _⟩ := entry_of hl hx
  rw [e1]
  exact K.lit _ (hok p hp)
 rcases K.K.find W hkey es.toList hks with ⟨h1, h2⟩ | ⟨j, e0, h1, h2, h3⟩
 ·refine ⟨(z, false), .inl ⟨fun hm => ?_, rfl⟩, ?_, ?_⟩
  ·obtain ⟨p, hp, e1⟩ := List.mem_map.1 hm
   obtain ⟨x, hx, e2, _⟩ := of_entry hl hp
   exact h2 x hx (by rw [e2, e1])
  ·simp [Instr.lookup, run_underlying ht, MapKept.run_getObj_map hb, K.K.check W _ hkey, h1, hz, Result.andThen]
  ·simp [Instr.lookup, run_underlying ht, MapKept.run_getObj_map hb, K.K.check W _ hkey, h1, hz, Result.andThen]
 ·obtain ⟨p, hp, e1, e2⟩ := entry_of hl (List.mem_of_getElem? h2)
  have e3 : a = p.1 := K.inj _ _ (by rw [← h3, e1])
  refine ⟨(p.2, true), .inr ⟨rfl, by rw [e3]; exact hp⟩, ?_, ?_⟩
  ·simp [Instr.lookup, run_underlying ht, MapKept.run_getObj_map hb, K.K.check W _ hkey, h1, e2, Result.andThen]
  ·simp [Instr.lookup, run_underlying ht, MapKept.run_getObj_map hb, K.K.check W _ hkey, h1, e2, Result.andThen]
theorem MapIs.store (h : MapIs W b ek ev Ok l) (K : KeyK T ek Ok) (ht : Tryz.prog.underlying t = some (.map T e)) {a : α} (ha : Ok a) (hn : a ∉ l.map Prod.fst) (v : β) :
  ∃ W', (Instr.mapUpdate t (.map (some b)) (ek a) (ev v)).run Tryz.prog W = .ok () W' ∧ MapIs W' b ek ev Ok (l ++ [(a, v)]) ∧ W.grownBy W' (some b) ∧ W'.heap.size = W.heap.size := by
 obtain ⟨es, c, hb, hl, hs, hok⟩ := h
 obtain ⟨kl, hkey⟩ := K.lit a ha
 have hks : ∀ x ∈ es.toList, ∃ y, keyOf Tryz.prog T x.key = some y := fun x hx => by
  obtain ⟨p, hp, e1, _⟩ := entry_of hl hx
  rw [e1]
  exact K.lit _ (hok p hp)
 rcases K.K.find W hkey es.toList hks with ⟨h1, h2⟩ | ⟨j, e0, h1, h2, h3⟩
 ·refine ⟨setBlock W b (.map (es.push ⟨ek a, ev v, c⟩) (c + 1)), ?_, ⟨_, _, heap_setBlock_same hb _, ?_, stamped_push hs h2, ?_⟩, ⟨rfl, rfl, rfl, by simp [setBlock], fun i _ hi => heap_setBlock_other hb _ (fun e => hi (by rw [e]))⟩, by simp [setBlock]⟩
  ·simp [Instr.mapUpdate, run_underlying ht, MapKept.run_getObj_map hb, K.K.check W false hkey, h1, MapKept.run_setObj_map _ hb, Result.andThen, setBlock]
  ·rw [Array.toList_push, List.map_append, List.map_append, hl]; rfl
  ·intro p hp
   rcases List.mem_append.1 hp with hp | hp
   ·exact hok p hp
   ·rw [List.mem_singleton.1 hp]; exact ha
 ·obtain ⟨p, hp, e1, e2⟩ := entry_of hl (List.mem_of_getElem? h2)
  have e3 : a = p.1 := K.inj _ _ (by rw [← h3, e1])
  exact absurd (List.mem_map.2 ⟨p, hp, e3.symm⟩) hn
theorem MapIs.len (h : MapIs W b ek ev Ok l) (ht : Tryz.prog.underlying t = some (.map T e)) (ty : TypeId) : (Builtin.len_ #[t] ty #[.map (some b)]).run Tryz.prog W = .ok (.int .i64 l.length) W := by
 obtain ⟨es, c, hb, hl, _⟩ := h
 have e1 : es.size = l.length := by rw [← Array.length_toList, ← List.length_map (f := fun e : MapEntry => (e.key, e.val)), hl, List.length_map]
 simp [Builtin.len_, run_underlying ht, MapKept.run_getObj_map hb, goInt, Result.andThen, e1]
end
section
variable {α β : Type} {T : TypeId} {ek : α → Value} {ev : β → Value} {Ok : α → Prop} {W : World} {b : Nat} {l : List (α × β)} {t e : TypeId} {ops : Array Oper} {rest : List Oper} {o : Oper} {a : Act} {Q : Exit → Act → World → Prop}
theorem wp_look (hg : o.guard = none) (m x : Operand) (t : TypeId) (hop : o.op = Op.lookup t m x true) (e : TypeId) (K : KeyK T ek Ok) (ht : Tryz.prog.underlying t = some (.map T e)) {z : β} (hz : (zeroValue e).run Tryz.prog W = .ok (ev z) W) (b : Nat)
  (hm : a.eval m = .map (some b)) (h : MapIs W b ek ev Ok l) {k : α} (hk : Ok k) (hx : a.eval x = ek k)
  (hK : ∀ r, Got l z k r → wpList Tryz.prog ops Q rest (a.put o.dst (.tuple #[ev r.1, .bool r.2])) W) : wpList Tryz.prog ops Q (o :: rest) a W := by
 refine wpList_plain hg fun K' hK' => ?_
 obtain ⟨r, hr, hrun, _⟩ := h.look K ht hz hk
 unfold Oper.wp
 simp [execOp, hop, hm, hx, hrun, Result.andThen]
 exact hK' _ _ (hK r hr)
theorem wp_store (hg : o.guard = none) (m x v : Operand) (t : TypeId) (hop : o.op = Op.mapUpdate t m x v) (e : TypeId) (K : KeyK T ek Ok) (ht : Tryz.prog.underlying t = some (.map T e)) (b : Nat)
  (hm : a.eval m = .map (some b)) (h : MapIs W b ek ev Ok l) {k : α} (hk : Ok k) (hn : k ∉ l.map Prod.fst) {y : β} (hx : a.eval x = ek k) (hv : a.eval v = ev y)
  (hK : ∀ W', MapIs W' b ek ev Ok (l ++ [(k, y)]) → W.grownBy W' (some b) → W'.heap.size = W.heap.size → wpList Tryz.prog ops Q rest (a.put o.dst undef) W') : wpList Tryz.prog ops Q (o :: rest) a W := by
 refine wpList_plain hg fun K' hK' => ?_
 obtain ⟨W', hrun, r1, r2, r3⟩ := h.store K ht hk hn y
 unfold Oper.wp
 simp [execOp, hop, hm, hx, hv, hrun, Result.andThen]
 exact hK' _ _ (hK W' r1 r2 r3)
end

section
variable {α β : Type} {T : TypeId} {ek : α → Value} {ev : β → Value} {Ok : α → Prop} {W W' : World} {b : Nat} {l : List (α × β)} {t e : TypeId} {ops : Array Oper} {rest : List Oper} {o : Oper} {a : Act} {Q : Exit → Act → World → Prop}
theorem wp_look_no (hg : o.guard = none) (m x : Operand) (t : TypeId) (hop : o.op = Op.lookup t m x true) (e : TypeId) (K : KeyK T ek Ok) (ht : Tryz.prog.underlying t = some (.map T e)) {z : β} (hz : (zeroValue e).run Tryz.prog W = .ok (ev z) W) (b : Nat)
  (hm : a.eval m = .map (some b)) (h : MapIs W b ek ev Ok l) {k : α} (hk : Ok k) (hn : k ∉ l.map Prod.fst) (hx : a.eval x = ek k)
  (hK : wpList Tryz.prog ops Q rest (a.put o.dst (.tuple #[ev z, .bool false])) W) : wpList Tryz.prog ops Q (o :: rest) a W :=
 wp_look hg m x t hop e K ht hz b hm h hk hx fun r hr => by
  rcases hr with ⟨_, rfl⟩ | ⟨_, hr⟩
  ·exact hK
  ·exact absurd (List.mem_map.2 ⟨_, hr, rfl⟩) hn
theorem wp_look_yes (hg : o.guard = none) (m x : Operand) (t : TypeId) (hop : o.op = Op.lookup t m x true) (e : TypeId) (K : KeyK T ek Ok) (ht : Tryz.prog.underlying t = some (.map T e)) {z : β} (hz : (zeroValue e).run Tryz.prog W = .ok (ev z) W) (b : Nat)
  (hm : a.eval m = .map (some b)) (h : MapIs W b ek ev Ok l) {k : α} (hk : Ok k) (hn : k ∈ l.map Prod.fst) (hx : a.eval x = ek k)
  (hK : ∀ y, (k, y) ∈ l → wpList Tryz.prog ops Q rest (a.put o.dst (.tuple #[ev y, .bool true])) W) : wpList Tryz.prog ops Q (o :: rest) a W :=
 wp_look hg m x t hop e K ht hz b hm h hk hx fun r hr => by
  rcases hr with ⟨hr, _⟩ | ⟨h1, hr⟩
  ·exact absurd hn hr
  ·rw [h1]; exact hK _ hr
theorem cell_but {row : Option Nat} (hg : W.grownBy W' row) {q : Addr} (hlt : q.block < W.heap.size) (hne : row ≠ some q.block) : W'.cell? q = W.cell? q := by
 have := hg.block q.block hlt (fun e => hne e.symm)
 unfold World.cell?
 rw [this]
theorem heap_but {row : Option Nat} (hg : W.grownBy W' row) {k : Nat} (hlt : k < W.heap.size) (hne : row ≠ some k) : W'.heap[k]? = W.heap[k]? := hg.block k hlt (fun e => hne e.symm)
end

def Ranges {α β : Type} (W : World) (b r : Nat) (ek : α → Value) (ev : β → Value) (Ok : α → Prop) (l left : List (α × β)) : Prop :=
 ∃ es clock since seen c0, W.heap[b]? = some (.map es clock) ∧ es.toList.map (fun e => (e.key, e.val)) = l.map (fun p => (ek p.1, ev p.2)) ∧ Stamped es clock ∧ (∀ p ∈ l, Ok p.1) ∧
  W.heap[r]? = some (.mapIter (some b) since seen c0) ∧ (∀ x ∈ es.toList, x.born < since) ∧ (leftOf es seen).toList.map (fun e => (e.key, e.val)) = left.map (fun p => (ek p.1, ev p.2)) ∧ since ≤ c0 ∧ since ≤ clock ∧ left.Sublist l
section
variable {α β : Type} {T : TypeId} {ek : α → Value} {ev : β → Value} {Ok : α → Prop} {W W' : World} {b r : Nat} {l left : List (α × β)} {t e : TypeId}
theorem Ranges.isMap (h : Ranges W b r ek ev Ok l left) : MapIs W b ek ev Ok l := by
 obtain ⟨es, c, since, seen, c0, hb, hl, hs, hok, _⟩ := h
 exact ⟨es, c, hb, hl, hs, hok⟩
theorem Ranges.lt (h : Ranges W b r ek ev Ok l left) : r < W.heap.size := by
 obtain ⟨es, c, since, seen, c0, _, _, _, _, hr, _⟩ := h
 exact blk_lt hr
theorem Ranges.ne (h : Ranges W b r ek ev Ok l left) : r ≠ b := by
 obtain ⟨es, c, since, seen, c0, hb, _, _, _, hr, _⟩ := h
 intro e; rw [e, hb] at hr; cases hr
theorem Ranges.walk (h : Ranges W b r ek ev Ok l left) : ∃ o : Obj, W.heap[r]? = some o ∧ o.isWalk = true := by
 obtain ⟨es, c, since, seen, c0, _, _, _, _, hr, _⟩ := h
 exact ⟨_, hr, rfl⟩
theorem Ranges.at (h : Ranges W b r ek ev Ok l left) (hb' : W'.heap[b]? = W.heap[b]?) (hr' : W'.heap[r]? = W.heap[r]?) : Ranges W' b r ek ev Ok l left := by
 obtain ⟨es, c, since, seen, c0, hb, hl, hs, hok, hr, rest⟩ := h
 exact ⟨es, c, since, seen, c0, hb'.trans hb, hl, hs, hok, hr'.trans hr, rest⟩
theorem Ranges.drew (h : Ranges W b r ek ev Ok l left) : Ranges W.drew b r ek ev Ok l left := h
theorem Ranges.on {B : Nat} (h : Ranges W b r ek ev Ok l left) (hB : Below B W W') (h1 : b < B) (h2 : r < B) : Ranges W' b r ek ev Ok l left := h.at (hB.block _ h1) (hB.block _ h2)
theorem Ranges.kept {row : Option Nat} (h : Ranges W b r ek ev Ok l left) (hg : W.grownBy W' row) (h1 : some b ≠ row) (h2 : some r ≠ row) : Ranges W' b r ek ev Ok l left := h.at (hg.block b h.isMap.lt h1) (hg.block r h.lt h2)
theorem Ranges.alloc (h : Ranges W b r ek ev Ok l left) (o : Obj) : Ranges (W.alloc o) b r ek ev Ok l left := h.at (Below.heap_alloc W o b h.isMap.lt) (Below.heap_alloc W o r h.lt)
theorem MapIs.range (h : MapIs W b ek ev Ok l) (ht : Tryz.prog.underlying t = some (.map T e)) :
  ∃ W', (Instr.range t (.map (some b))).run Tryz.prog W = .ok (.pointer (some ⟨W.heap.size, 0, none⟩)) W' ∧ Ranges W' b W.heap.size ek ev Ok l l ∧ W.grownBy W' none ∧ W'.heap.size = W.heap.size + 1 := by
 have hlt := h.lt
 obtain ⟨es, c, hb, hl, hs, hok⟩ := h
 refine ⟨_, run_range_map W t T e b es c ht hb, ⟨es, c, c, #[], c, ((MapKept.heap_alloc W _).2 b hlt).trans hb, hl, hs, hok, (MapKept.heap_alloc W _).1, ((stamped_iff es c).1 hs).1, ?_, Nat.le_refl _, Nat.le_refl _, List.Sublist.refl _⟩, World.grownBy_alloc W _ none, by simp⟩
 have e1 : (leftOf es #[]).toList = es.toList := by
  unfold leftOf
  rw [Array.toList_filter]
  exact List.filter_eq_self.2 fun y _ => by simp
 rw [e1, hl]
theorem map_split {γ δ ε : Type} {f : γ → ε} {g : δ → ε} : ∀ {xs : List γ} {ys : List δ}, xs.map f = ys.map g → ∀ {x : γ}, x ∈ xs → ∃ xs1 xs2 ys1 ys2 y, xs = xs1 ++ x :: xs2 ∧ ys = ys1 ++ y :: ys2 ∧ f x = g y ∧ xs1.map f = ys1.map g ∧ xs2.map f = ys2.map g
 |[], _, _, _, hx => by cases hx
 |a :: xs, [], h, _, _ => by simp at h
 |a :: xs, c :: ys, h, x, hx => by
  rw [List.map_cons, List.map_cons, List.cons_eq_cons] at h
  by_cases e : x = a
  ·subst e
   exact ⟨[], xs, [], ys, c, rfl, rfl, h.1, rfl, h.2⟩
  ·obtain ⟨x1, x2, y1, y2, y, e1, e2, e3, e4, e5⟩ := map_split h.2 (List.mem_of_ne_of_mem e hx)
   exact ⟨a :: x1, x2, c :: y1, y2, y, by rw [e1]; rfl, by rw [e2]; rfl, e3, by rw [List.map_cons, List.map_cons, e4, h.1], e5⟩
theorem left_push {es : Array MapEntry} {seen : Array Nat} {x : MapEntry} {l1 l2 : List MapEntry} (hn : (es.toList.map (·.born)).Nodup) (h : (leftOf es seen).toList = l1 ++ x :: l2) : (leftOf es (seen.push x.born)).toList = l1 ++ l2 := by
 unfold leftOf at *
 rw [Array.toList_filter] at *
 have e1 : es.toList.filter (fun e => !(seen.push x.born).contains e.born) = (es.toList.filter (fun e => !seen.contains e.born)).filter (fun e => !(e.born == x.born)) := by
  rw [List.filter_filter]
  refine List.filter_congr fun y _ => ?_
  rw [contains_push]
  cases seen.contains y.born <;> cases (y.born == x.born) <;> rfl
 rw [e1, h]
 have hnd : ((l1 ++ x :: l2).map (·.born)).Nodup := by
  rw [← h]
  exact hn.sublist (List.filter_sublist.map _)
 rw [List.map_append, List.map_cons, List.nodup_append] at hnd
 obtain ⟨_, h2, h3⟩ := hnd
 have h2' := (List.nodup_cons.1 h2).1
 rw [List.filter_append, List.filter_cons]
 simp only [beq_self_eq_true, Bool.not_true, Bool.false_eq_true, if_false]
 congr 1
 ·refine List.filter_eq_self.2 fun y hy => ?_
  have := h3 y.born (List.mem_map.2 ⟨y, hy, rfl⟩) x.born List.mem_cons_self
  simpa using this
 ·refine List.filter_eq_self.2 fun y hy => ?_
  have : y.born ≠ x.born := fun e => h2' (e ▸ List.mem_map.2 ⟨y, hy, rfl⟩)
  simpa using this
theorem Ranges.next (h : Ranges W b r ek ev Ok l left) (ty : TypeId) :
  (left = [] ∧ (Instr.next (.pointer (some ⟨r, 0, none⟩)) false ty).run Tryz.prog W = .ok (.tuple #[.bool false]) W) ∨
  ∃ l1 p l2 W', left = l1 ++ p :: l2 ∧ (Instr.next (.pointer (some ⟨r, 0, none⟩)) false ty).run Tryz.prog W = .ok (.tuple #[.bool true, ek p.1, ev p.2]) W' ∧ Ranges W' b r ek ev Ok l (l1 ++ l2) ∧ W.grownBy W' (some r) ∧ W'.heap.size = W.heap.size ∧ (Instr.entry (.pointer (some ⟨r, 0, none⟩))).run Tryz.prog W' = .ok (.tuple #[ek p.1, ev p.2]) W' := by
 have hne := h.ne
 obtain ⟨es, c, since, seen, c0, hb, hl, hs, hok, hr, hold, hleft, hsc, hsk, hsub⟩ := h
 have hst := (stamped_iff es c).1 hs
 rcases run_next_at (P := Tryz.prog) W ty r b since c0 seen es c hr hb hold hsc with ⟨h0, hrun⟩ | ⟨x, hx, w1, hal, hrun⟩
 ·refine .inl ⟨?_, hrun⟩
  have : (leftOf es seen).toList = [] := by rw [← List.length_eq_zero_iff, Array.length_toList]; exact h0
  rw [this] at hleft
  exact List.map_eq_nil_iff.1 hleft.symm
 ·obtain ⟨x1, x2, l1, l2, p, e1, e2, e3, e4, e5⟩ := map_split hleft hx
  have hk : x.key = ek p.1 := congrArg Prod.fst e3
  have hv : x.val = ev p.2 := congrArg Prod.snd e3
  have hr1 : w1.heap[r]? = some (.mapIter (some b) since seen c0) := by rcases hal with rfl | rfl <;> exact hr
  have hb1 : w1.heap[b]? = some (.map es c) := by rcases hal with rfl | rfl <;> exact hb
  have hset := heap_set (o' := .mapIter (some b) since (seen.push x.born) c) hr1
  have hb' : (setBlock w1 r (.mapIter (some b) since (seen.push x.born) c)).heap[b]? = some (.map es c) := (hset.2 b (fun e1 => hne e1.symm)).trans hb1
  have hem : x ∈ es.toList := (mem_left hx).1
  rw [hk, hv] at hrun
  refine .inr ⟨l1, p, l2, _, e2, hrun, ⟨es, c, since, seen.push x.born, c, hb', hl, hs, hok, hset.1, hold, ?_, hsk, hsk, ?_⟩, ?_, ?_, ?_⟩
  ·rw [left_push hst.2.1 e1, List.map_append, List.map_append, e4, e5]
  ·rw [e2] at hsub
   exact (List.Sublist.append (List.Sublist.refl _) (List.sublist_cons_self _ _)).trans hsub
  ·rcases hal with rfl | rfl <;> exact ⟨rfl, rfl, rfl, by simp [setBlock], fun i _ hi => hset.2 i (fun e1 => hi (by rw [e1]))⟩
  ·rcases hal with rfl | rfl <;> simp [setBlock]
  ·have := run_entry_at (P := Tryz.prog) _ r b since seen es c x hset.1 hb' hem hst.2.1
   rwa [hk, hv] at this
variable {ops : Array Oper} {rest : List Oper} {o : Oper} {a : Act} {Q : Exit → Act → World → Prop}
theorem wp_range (hg : o.guard = none) (m : Operand) (t : TypeId) (hop : o.op = Op.range t m) (T e : TypeId) (ht : Tryz.prog.underlying t = some (.map T e)) (b : Nat) (hm : a.eval m = .map (some b)) (h : MapIs W b ek ev Ok l)
  (hK : ∀ W', Ranges W' b W.heap.size ek ev Ok l l → W.grownBy W' none → W'.heap.size = W.heap.size + 1 → wpList Tryz.prog ops Q rest (a.put o.dst (.pointer (some ⟨W.heap.size, 0, none⟩))) W') : wpList Tryz.prog ops Q (o :: rest) a W := by
 refine wpList_plain hg fun K' hK' => ?_
 obtain ⟨W', hrun, r1, r2, r3⟩ := h.range ht
 unfold Oper.wp
 simp [execOp, hop, hm, hrun, Result.andThen]
 exact hK' _ _ (hK W' r1 r2 r3)
theorem wp_next (hg : o.guard = none) (it : Operand) (hop : o.op = Op.next it false) (r : Nat) (hit : a.eval it = .pointer (some ⟨r, 0, none⟩)) (h : Ranges W b r ek ev Ok l left)
  (hDone : left = [] → wpList Tryz.prog ops Q rest (a.put o.dst (.tuple #[.bool false])) W)
  (hMore : ∀ l1 p l2 W', left = l1 ++ p :: l2 → Ranges W' b r ek ev Ok l (l1 ++ l2) → W.grownBy W' (some r) → W'.heap.size = W.heap.size → (Instr.entry (.pointer (some ⟨r, 0, none⟩))).run Tryz.prog W' = .ok (.tuple #[ek p.1, ev p.2]) W' → wpList Tryz.prog ops Q rest (a.put o.dst (.tuple #[.bool true, ek p.1, ev p.2])) W') :
  wpList Tryz.prog ops Q (o :: rest) a W := by
 refine wpList_plain hg fun K' hK' => ?_
 unfold Oper.wp
 rcases h.next o.type with ⟨h0, hrun⟩ | ⟨l1, p, l2, W', hl, hrun, hrg, hgr, hsz, hen⟩
 ·simp [execOp, hop, hit, hrun, Result.andThen]
  exact hK' _ _ (hDone h0)
 ·simp [execOp, hop, hit, hrun, Result.andThen]
  exact hK' _ _ (hMore l1 p l2 W' hl hrg hgr hsz hen)
end

def In64 (n : Int) : Prop := -9223372036854775808 ≤ n ∧ n ≤ 9223372036854775807
def OkP (p : Int × Int) : Prop := In64 p.1 ∧ In64 p.2
def OkE (e : (Int × Int) × (Int × Int)) : Prop := OkP e.1 ∧ OkP e.2
def pv (p : Int × Int) : Value := .agg #[.int .i64 p.1, .int .i64 p.2]
def gv (e : (Int × Int) × (Int × Int)) : Value := .agg #[.int .i64 e.1.1, .int .i64 e.1.2, .int .i64 e.2.1, .int .i64 e.2.2]
def iv (n : Int) : Value := .int .i64 n
theorem wf64 {n : Int} (h : In64 n) : (Lit.int .i64 n).wf = true := WalkArith.wf_i64 (by unfold In64 at h; omega)
theorem okP_of {p : Int × Int} (h : Gd p) : OkP p := by unfold Gd at h; unfold OkP In64; omega
theorem okE_of {e : (Int × Int) × (Int × Int)} (h1 : Gd e.1) (h2 : Gd e.2) : OkE e := ⟨okP_of h1, okP_of h2⟩
theorem laidOut : laidOutB Tryz.prog = true := by kernel_rfl
theorem cellsInt : Tryz.prog.cellsOf 3 = 1 := by kernel_rfl
theorem cellsPt : Tryz.prog.cellsOf 56 = 2 := by kernel_rfl
theorem cellsEd : Tryz.prog.cellsOf 76 = 4 := by kernel_rfl
theorem manyTypes : 4 ≤ Tryz.prog.types.size := of_decide_eq_true (by kernel_rfl)
theorem keyP : KeyK 56 pv OkP where
 K := Go.Maps.Keyed.of_law (deep_law_laid laidOut (m := 3) (by omega) (of_decide_eq_true (by kernel_rfl)) (by kernel_rfl) (by rw [Tryz.underlying56]))
 lit a ha := by
  have hk : Tryz.prog.keyType 56 = true := by kernel_rfl
  obtain ⟨d, hd⟩ : ∃ d, Tryz.prog.types.size + 1 = d + 3 := ⟨Tryz.prog.types.size - 2, by have := manyTypes; omega⟩
  have w1 := wf64 ha.1
  have w2 := wf64 ha.2
  refine ⟨_, by
   unfold keyOf
   rw [Tryz.underlying56]
   simp only [hk, hd]
   simp [Program.keyLits, Value.formed, Tryz.underlying56, Tryz.underlying3, cellsPt, cellsInt, pv, Value.cells, w1, w2]
   rfl⟩
 inj a b h := by
  unfold pv at h
  simp at h
  exact Prod.ext h.1 h.2
theorem keyE : KeyK 76 gv OkE where
 K := Go.Maps.Keyed.of_law (deep_law_laid laidOut (m := 4) (by omega) (of_decide_eq_true (by kernel_rfl)) (by kernel_rfl) (by rw [Tryz.underlying76]))
 lit a ha := by
  have hk : Tryz.prog.keyType 76 = true := by kernel_rfl
  obtain ⟨d, hd⟩ : ∃ d, Tryz.prog.types.size + 1 = d + 3 := ⟨Tryz.prog.types.size - 2, by have := manyTypes; omega⟩
  have w1 := wf64 ha.1.1
  have w2 := wf64 ha.1.2
  have w3 := wf64 ha.2.1
  have w4 := wf64 ha.2.2
  refine ⟨_, by
   unfold keyOf
   rw [Tryz.underlying76]
   simp only [hk, hd]
   simp [Program.keyLits, Value.formed, Tryz.underlying76, Tryz.underlying56, Tryz.underlying3, cellsEd, cellsPt, cellsInt, gv, Value.cells, w1, w2, w3, w4]
   rfl⟩
 inj a b h := by
  unfold gv at h
  simp at h
  exact Prod.ext (Prod.ext h.1 h.2.1) (Prod.ext h.2.2.1 h.2.2.2)
theorem zeroI (w : World) : (zeroValue 3).run Tryz.prog w = .ok (iv 0) w := by kernel_rfl
theorem zeroP (w : World) : (zeroValue 56).run Tryz.prog w = .ok (pv (0, 0)) w := by kernel_rfl
end Go.Proofs.YtjlnjjmomohpaaaGreat

namespace Go.Proofs.YtjlnjjmomohpaaaGreat
open Go.RowKit Go.ChangeMaps Go.MapKept

def addKey {α : Type} [DecidableEq α] (ks : List α) (a : α) : List α := if a ∈ ks then ks else ks ++ [a]
def MapSt {α β : Type} (W : World) (b : Nat) (ek : α → Value) (ev : β → Value) (Ok : α → Prop) (l : List (α × β)) (st : Nat) : Prop :=
 ∃ es clock, W.heap[b]? = some (.map es clock) ∧ es.toList.map (fun e => (e.key, e.val)) = l.map (fun p => (ek p.1, ev p.2)) ∧ Stamped es clock ∧ (∀ p ∈ l, Ok p.1) ∧ ∃ x ∈ es.toList, x.born = st
section
variable {α β : Type} [DecidableEq α] {T : TypeId} {ek : α → Value} {ev : β → Value} {Ok : α → Prop} {W W' : World} {b : Nat} {l : List (α × β)} {st : Nat} {t e : TypeId}
omit [DecidableEq α] in
theorem MapSt.isMap (h : MapSt W b ek ev Ok l st) : MapIs W b ek ev Ok l := by
 obtain ⟨es, c, h1, h2, h3, h4, _⟩ := h
 exact ⟨es, c, h1, h2, h3, h4⟩
omit [DecidableEq α] in
theorem MapSt.drew (h : MapSt W b ek ev Ok l st) : MapSt W.drew b ek ev Ok l st := h
theorem set_of {γ δ ε : Type} {f : γ → ε} {g : δ → ε} {xs : List γ} {ys : List δ} (h : xs.map f = ys.map g) (i : Nat) {x : γ} {y : δ} (hxy : f x = g y) : (xs.set i x).map f = (ys.set i y).map g := by
 rw [List.map_set, List.map_set, h, hxy]
theorem MapIs.entry (h : MapIs W b ek ev Ok l) (K : KeyK T ek Ok) (ht : Tryz.prog.underlying t = some (.map T e)) {z : β} (hz : ∀ u, (zeroValue e).run Tryz.prog u = .ok (ev z) u) {a : α} (ha : Ok a) :
  ∃ y st W1 l1, (Instr.mapEntry t (.map (some b)) (ek a)).run Tryz.prog W = .ok (.tuple #[ev y, .int .i64 (st : Nat)]) W1 ∧ l1.map Prod.fst = addKey (l.map Prod.fst) a ∧ MapSt W1 b ek ev Ok l1 st ∧ W.grownBy W1 (some b) ∧ W1.heap.size = W.heap.size := by
 obtain ⟨es, c, hb, hl, hs, hok⟩ := h
 obtain ⟨kl, hkey⟩ := K.lit a ha
 have hks : ∀ x ∈ es.toList, ∃ y, keyOf Tryz.prog T x.key = some y := fun x hx => by
  obtain ⟨p, hp, e1, _⟩ := entry_of hl hx
  rw [e1]
  exact K.lit _ (hok p hp)
 rcases K.K.find W hkey es.toList hks with ⟨h1, h2⟩ | ⟨j, e0, h1, h2, h3⟩
 ·have hn : a ∉ l.map Prod.fst := fun hm => by
   obtain ⟨p, hp, e1⟩ := List.mem_map.1 hm
   obtain ⟨x, hx, e2, _⟩ := of_entry hl hp
   exact h2 x hx (by rw [e2, e1])
  refine ⟨z, c, setBlock W b (.map (es.push ⟨ek a, ev z, c⟩) (c + 1)), l ++ [(a, z)], ?_, ?_, ⟨_, _, heap_setBlock_same hb _, ?_, stamped_push hs h2, ?_, ⟨ek a, ev z, c⟩, by simp, rfl⟩, ⟨rfl, rfl, rfl, by simp [setBlock], fun i _ hi => heap_setBlock_other hb _ (fun e => hi (by rw [e]))⟩, by simp [setBlock]⟩
  ·simp [Instr.mapEntry, run_underlying ht, MapKept.run_getObj_map hb, K.K.check W false hkey, h1, hz, MapKept.run_setObj_map _ hb, Result.andThen, setBlock, goInt]
  ·unfold addKey
   rw [if_neg hn, List.map_append]; rfl
  ·rw [Array.toList_push, List.map_append, List.map_append, hl]; rfl
  ·intro p hp
   rcases List.mem_append.1 hp with hp | hp
   ·exact hok p hp
   ·rw [List.mem_singleton.1 hp]; exact ha
 ·have hj : es[j]? = some e0 := by simpa using h2
  have hsame : es.modify j (fun e => { e with key := ek a }) = es := by
   apply Array.ext'
   rw [Array.toList_modify, modify_eq_set _ _ _ _ h2]
   have : ({ e0 with key := ek a } : MapEntry) = e0 := by rw [← h3]
   rw [this]
   exact Go.WideElems.set_self _ _ _ h2
  have hm0 := List.mem_of_getElem? h2
  obtain ⟨p, hp, e1, e2⟩ := entry_of hl hm0
  have e3 : a = p.1 := K.inj _ _ (by rw [← h3, e1])
  refine ⟨p.2, e0.born, setBlock W b (.map es c), l, ?_, ?_, ⟨_, _, heap_setBlock_same hb _, hl, hs, hok, e0, hm0, rfl⟩, ⟨rfl, rfl, rfl, by simp [setBlock], fun i _ hi => heap_setBlock_other hb _ (fun e => hi (by rw [e]))⟩, by simp [setBlock]⟩
  ·simp [Instr.mapEntry, run_underlying ht, MapKept.run_getObj_map hb, K.K.check W false hkey, h1, hj, h3, K.K.stays W hkey, hsame, MapKept.run_setObj_map _ hb, Result.andThen, setBlock, goInt, e2]
  ·unfold addKey
   rw [if_pos (List.mem_map.2 ⟨p, hp, e3.symm⟩)]
omit [DecidableEq α] in
theorem MapSt.store (h : MapSt W b ek ev Ok l st) (t : TypeId) (y : β) :
  ∃ W1 l1, (Instr.entryStore t (.map (some b)) (.int .i64 (st : Nat)) (ev y)).run Tryz.prog W = .ok () W1 ∧ l1.map Prod.fst = l.map Prod.fst ∧ MapIs W1 b ek ev Ok l1 ∧ W.grownBy W1 (some b) ∧ W1.heap.size = W.heap.size := by
 obtain ⟨es, c, hb, hl, hs, hok, x, hx, rfl⟩ := h
 obtain ⟨j, hj⟩ := List.getElem?_of_mem hx
 have hidx : es.findIdx? (fun e => ((e.born : Nat) : Int) == ((x.born : Nat) : Int)) = some j := by
  rw [Go.WideElems.findIdx_arr]
  exact Go.WideElems.findIdx_born ((stamped_iff es c).1 hs).2.1 hj
 have hjl : j < l.length := by
  have h1 : es.toList.length = l.length := by rw [← List.length_map (f := fun e : MapEntry => (e.key, e.val)), hl, List.length_map]
  have := (List.getElem?_eq_some_iff.1 hj).1
  omega
 obtain ⟨p, hp⟩ : ∃ p, l[j]? = some p := ⟨l[j], List.getElem?_eq_getElem hjl⟩
 have hkp : x.key = ek p.1 := by
  have := congrArg (fun q => q[j]?) hl
  simp only [List.getElem?_map, hj, hp, Option.map_some] at this
  exact congrArg Prod.fst (Option.some.inj this)
 have hlist : (es.modify j (fun e' => { e' with val := ev y })).toList = es.toList.set j { x with val := ev y } := by rw [Array.toList_modify, modify_eq_set _ _ _ _ hj]
 refine ⟨setBlock W b (.map (es.modify j fun e => { e with val := ev y }) c), l.set j (p.1, y), ?_, ?_, ⟨_, _, heap_setBlock_same hb _, ?_, stamped_modify hs _ _ (fun _ _ => rfl) (fun _ _ _ => rfl), ?_⟩, ⟨rfl, rfl, rfl, by simp [setBlock], fun i _ hi => heap_setBlock_other hb _ (fun e => hi (by rw [e]))⟩, by simp [setBlock]⟩
 ·simp [Instr.entryStore, MapKept.run_getObj_map hb, asInt, asIntOf, hidx, MapKept.run_setObj_map _ hb, Result.andThen, setBlock]
 ·rw [List.map_set]
  exact Go.WideElems.set_self _ _ _ (by rw [List.getElem?_map, hp]; rfl)
 ·rw [hlist]
  exact set_of hl j (by show (x.key, ev y) = (ek p.1, ev y); rw [hkp])
 ·intro q hq
  rcases List.mem_or_eq_of_mem_set hq with h | rfl
  ·exact hok q h
  ·exact hok p (List.mem_of_getElem? hp)
end
section
variable {α β : Type} [DecidableEq α] {T : TypeId} {ek : α → Value} {ev : β → Value} {Ok : α → Prop} {W : World} {b : Nat} {l : List (α × β)} {st : Nat} {ops : Array Oper} {o : Oper} {a : Act} {KK : Act → World → Prop} {Q : Exit → Act → World → Prop} {E : Prop}
theorem wanted_of (hgd : o.guard = none) : Region.wanted o (yielded ops a.tmps) = true := by simp [Region.wanted, hgd]
omit [DecidableEq α] in
theorem step_look (t e : TypeId) (K : KeyK T ek Ok) (ht : Tryz.prog.underlying t = some (.map T e)) {z : β} (hz : ∀ u, (zeroValue e).run Tryz.prog u = .ok (ev z) u) (h : MapIs W b ek ev Ok l) {k : α} (hk : Ok k) (hgd : o.guard = none) (m x : Operand) (hop : o.op = Op.lookup t m x false)
  (hm : a.eval m = .map (some b)) (hx : a.eval x = ek k) (hK : ∀ y : β, KK (a.put o.dst (ev y)) W) :
  if Region.wanted o (yielded ops a.tmps) = true then Oper.wp Tryz.prog o a W KK Q else E := by
 rw [if_pos (wanted_of hgd)]
 obtain ⟨r, _, _, hrun⟩ := h.look K ht (hz W) hk
 unfold Oper.wp
 simp [execOp, hop, hm, hx, hrun, Result.andThen]
 exact hK r.1
theorem step_entry (t e : TypeId) (K : KeyK T ek Ok) (ht : Tryz.prog.underlying t = some (.map T e)) {z : β} (hz : ∀ u, (zeroValue e).run Tryz.prog u = .ok (ev z) u) (h : MapIs W b ek ev Ok l) {k : α} (hk : Ok k) (hgd : o.guard = none) (m x : Operand) (hop : o.op = Op.mapEntry t m x)
  (hm : a.eval m = .map (some b)) (hx : a.eval x = ek k) (hK : ∀ (y : β) (st : Nat) (W1 : World) (l1 : List (α × β)), l1.map Prod.fst = addKey (l.map Prod.fst) k → MapSt W1 b ek ev Ok l1 st → W.grownBy W1 (some b) → KK (a.put o.dst (.tuple #[ev y, .int .i64 (st : Nat)])) W1) :
  if Region.wanted o (yielded ops a.tmps) = true then Oper.wp Tryz.prog o a W KK Q else E := by
 rw [if_pos (wanted_of hgd)]
 obtain ⟨y, st, W1, l1, hrun, h1, h2, h3, _⟩ := h.entry K ht hz hk
 unfold Oper.wp
 simp [execOp, hop, hm, hx, hrun, Result.andThen]
 exact hK y st W1 l1 h1 h2 h3
omit [DecidableEq α] in
theorem step_estore (t : TypeId) (h : MapSt W b ek ev Ok l st) (y : β) (hgd : o.guard = none) (m s x : Operand) (hop : o.op = Op.entryStore t m s x)
  (hm : a.eval m = .map (some b)) (hs : a.eval s = .int .i64 (st : Nat)) (hx : a.eval x = ev y) (hK : ∀ (W1 : World) (l1 : List (α × β)), l1.map Prod.fst = l.map Prod.fst → MapIs W1 b ek ev Ok l1 → W.grownBy W1 (some b) → KK (a.put o.dst undef) W1) :
  if Region.wanted o (yielded ops a.tmps) = true then Oper.wp Tryz.prog o a W KK Q else E := by
 rw [if_pos (wanted_of hgd)]
 obtain ⟨W1, l1, hrun, h1, h2, h3, _⟩ := h.store t y
 unfold Oper.wp
 simp [execOp, hop, hm, hs, hx, hrun, Result.andThen]
 exact hK W1 l1 h1 h2 h3
end
end Go.Proofs.YtjlnjjmomohpaaaGreat
