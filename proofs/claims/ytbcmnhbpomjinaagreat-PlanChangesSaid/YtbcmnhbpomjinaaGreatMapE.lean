/- Maps as lists: 'm[k]++' in its parts: the entry, and the store into it. -/
import Derived.Test.YtbcmnhbpomjinaaGreatMaps
import Derived.WideKeyEntry
namespace Go.Proofs.YtbcmnhbpomjinaaGreat
open Go.RowKit Go.ChangeMaps Go.MapKept

/-- A key more, at the end, if it is not there. -/
def addKey {α : Type} [DecidableEq α] (ks : List α) (a : α) : List α := if a ∈ ks then ks else ks ++ [a]
/-- A map one of whose entries bears this stamp. -/
def MapSt {α β : Type} (W : World) (b : Nat) (ek : α → Value) (ev : β → Value) (Ok : α → Prop) (l : List (α × β)) (st : Nat) : Prop :=
  ∃ es clock, W.heap[b]? = some (.map es clock) ∧ es.toList.map (fun e => (e.key, e.val)) = l.map (fun p => (ek p.1, ev p.2)) ∧ Stamped es clock ∧ (∀ p ∈ l, Ok p.1) ∧ ∃ x ∈ es.toList, x.born = st
section
variable {α β : Type} [DecidableEq α] {T : TypeId} {ek : α → Value} {ev : β → Value} {Ok : α → Prop} {W W' : World} {b : Nat} {l : List (α × β)} {st : Nat} {t e : TypeId}
omit [DecidableEq α] in
theorem MapSt.isMap (h : MapSt W b ek ev Ok l st) : MapIs W b ek ev Ok l := by
  obtain ⟨es, c, h1, h2, h3, h4, _⟩ := h
  exact ⟨es, c, h1, h2, h3, h4⟩
omit [DecidableEq α] in
theorem MapSt.drew (h : MapSt W b ek ev Ok l st) : MapSt W.drew b ek ev Ok l st := h
theorem set_of {γ δ ε : Type} {f : γ → ε} {g : δ → ε} {xs : List γ} {ys : List δ} (h : xs.map f = ys.map g) (i : Nat) {x : γ} {y : δ} (hxy : f x = g y) : (xs.set i x).map f = (ys.set i y).map g := by
  rw [List.map_set, List.map_set, h, hxy]
theorem MapIs.entry (h : MapIs W b ek ev Ok l) (K : KeyK T ek Ok) (ht : Tryz.prog.underlying t = some (.map T e)) {z : β} (hz : ∀ u, (zeroValue e).run Tryz.prog u = .ok (ev z) u) {a : α} (ha : Ok a) :
    ∃ y st W1 l1, (Instr.mapEntry t (.map (some b)) (ek a)).run Tryz.prog W = .ok (.tuple #[ev y, .int .i64 (st : Nat)]) W1 ∧ l1.map Prod.fst = addKey (l.map Prod.fst) a ∧ MapSt W1 b ek ev Ok l1 st ∧ W.grownBy W1 (some b) ∧ W1.heap.size = W.heap.size := by
  obtain ⟨es, c, hb, hl, hs, hok⟩ := h
  obtain ⟨kl, hkey⟩ := K.lit a ha
  have hks : ∀ x ∈ es.toList, ∃ y, keyOf Tryz.prog T x.key = some y := fun x hx => by
    obtain ⟨p, hp, e1, _⟩ := entry_of hl hx
    rw [e1]
    exact K.lit _ (hok p hp)
  rcases K.K.find W hkey es.toList hks with ⟨h1, h2⟩ | ⟨j, e0, h1, h2, h3⟩
  · have hn : a ∉ l.map Prod.fst := fun hm => by
      obtain ⟨p, hp, e1⟩ := List.mem_map.1 hm
      obtain ⟨x, hx, e2, _⟩ := of_entry hl hp
      exact h2 x hx (by rw [e2, e1])
    refine ⟨z, c, setBlock W b (.map (es.push ⟨ek a, ev z, c⟩) (c + 1)), l ++ [(a, z)], ?_, ?_, ⟨_, _, heap_setBlock_same hb _, ?_, stamped_push hs h2, ?_, ⟨ek a, ev z, c⟩, by simp, rfl⟩, ⟨rfl, rfl, rfl, by simp [setBlock], fun i _ hi => heap_setBlock_other hb _ (fun e => hi (by rw [e]))⟩, by simp [setBlock]⟩
    · simp [Instr.mapEntry, run_underlying ht, MapKept.run_getObj_map hb, K.K.check W false hkey, h1, hz, MapKept.run_setObj_map _ hb, Result.andThen, setBlock, goInt]
    · unfold addKey
      rw [if_neg hn, List.map_append]; rfl
    · rw [Array.toList_push, List.map_append, List.map_append, hl]; rfl
    · intro p hp
      rcases List.mem_append.1 hp with hp | hp
      · exact hok p hp
      · rw [List.mem_singleton.1 hp]; exact ha
  · have hj : es[j]? = some e0 := by simpa using h2
    have hsame : es.modify j (fun e => { e with key := ek a }) = es := by
      apply Array.ext'
      rw [Array.toList_modify, modify_eq_set _ _ _ _ h2]
      have : ({ e0 with key := ek a } : MapEntry) = e0 := by rw [← h3]
      rw [this]
      exact Go.WideElems.set_self _ _ _ h2
    have hm0 := List.mem_of_getElem? h2
    obtain ⟨p, hp, e1, e2⟩ := entry_of hl hm0
    have e3 : a = p.1 := K.inj _ _ (by rw [← h3, e1])
    refine ⟨p.2, e0.born, setBlock W b (.map es c), l, ?_, ?_, ⟨_, _, heap_setBlock_same hb _, hl, hs, hok, e0, hm0, rfl⟩, ⟨rfl, rfl, rfl, by simp [setBlock], fun i _ hi => heap_setBlock_other hb _ (fun e => hi (by rw [e]))⟩, by simp [setBlock]⟩
    · simp [Instr.mapEntry, run_underlying ht, MapKept.run_getObj_map hb, K.K.check W false hkey, h1, hj, h3, K.K.stays W hkey, hsame, MapKept.run_setObj_map _ hb, Result.andThen, setBlock, goInt, e2]
    · unfold addKey
      rw [if_pos (List.mem_map.2 ⟨p, hp, e3.symm⟩)]
omit [DecidableEq α] in
theorem MapSt.store (h : MapSt W b ek ev Ok l st) (t : TypeId) (y : β) :
    ∃ W1 l1, (Instr.entryStore t (.map (some b)) (.int .i64 (st : Nat)) (ev y)).run Tryz.prog W = .ok () W1 ∧ l1.map Prod.fst = l.map Prod.fst ∧ MapIs W1 b ek ev Ok l1 ∧ W.grownBy W1 (some b) ∧ W1.heap.size = W.heap.size := by
  obtain ⟨es, c, hb, hl, hs, hok, x, hx, rfl⟩ := h
  obtain ⟨j, hj⟩ := List.getElem?_of_mem hx
  have hidx : es.findIdx? (fun e => ((e.born : Nat) : Int) == ((x.born : Nat) : Int)) = some j := by
    rw [Go.WideElems.findIdx_arr]
    exact Go.WideElems.findIdx_born ((stamped_iff es c).1 hs).2.1 hj
  have hjl : j < l.length := by
    have h1 : es.toList.length = l.length := by rw [← List.length_map (f := fun e : MapEntry => (e.key, e.val)), hl, List.length_map]
    have := (List.getElem?_eq_some_iff.1 hj).1
    omega
  obtain ⟨p, hp⟩ : ∃ p, l[j]? = some p := ⟨l[j], List.getElem?_eq_getElem hjl⟩
  have hkp : x.key = ek p.1 := by
    have := congrArg (fun q => q[j]?) hl
    simp only [List.getElem?_map, hj, hp, Option.map_some] at this
    exact congrArg Prod.fst (Option.some.inj this)
  have hlist : (es.modify j (fun e' => { e' with val := ev y })).toList = es.toList.set j { x with val := ev y } := by rw [Array.toList_modify, modify_eq_set _ _ _ _ hj]
  refine ⟨setBlock W b (.map (es.modify j fun e => { e with val := ev y }) c), l.set j (p.1, y), ?_, ?_, ⟨_, _, heap_setBlock_same hb _, ?_, stamped_modify hs _ _ (fun _ _ => rfl) (fun _ _ _ => rfl), ?_⟩, ⟨rfl, rfl, rfl, by simp [setBlock], fun i _ hi => heap_setBlock_other hb _ (fun e => hi (by rw [e]))⟩, by simp [setBlock]⟩
  · simp [Instr.entryStore, MapKept.run_getObj_map hb, asInt, asIntOf, hidx, MapKept.run_setObj_map _ hb, Result.andThen, setBlock]
  · rw [List.map_set]
    exact Go.WideElems.set_self _ _ _ (by rw [List.getElem?_map, hp]; rfl)
  · rw [hlist]
    exact set_of hl j (by show (x.key, ev y) = (ek p.1, ev y); rw [hkp])
  · intro q hq
    rcases List.mem_or_eq_of_mem_set hq with h | rfl
    · exact hok q h
    · exact hok p (List.mem_of_getElem? hp)
end
section
variable {α β : Type} [DecidableEq α] {T : TypeId} {ek : α → Value} {ev : β → Value} {Ok : α → Prop} {W : World} {b : Nat} {l : List (α × β)} {st : Nat} {ops : Array Oper} {o : Oper} {a : Act} {KK : Act → World → Prop} {Q : Exit → Act → World → Prop} {E : Prop}
theorem wanted_of (hgd : o.guard = none) : Region.wanted o (yielded ops a.tmps) = true := by simp [Region.wanted, hgd]
omit [DecidableEq α] in
theorem step_look (t e : TypeId) (K : KeyK T ek Ok) (ht : Tryz.prog.underlying t = some (.map T e)) {z : β} (hz : ∀ u, (zeroValue e).run Tryz.prog u = .ok (ev z) u) (h : MapIs W b ek ev Ok l) {k : α} (hk : Ok k) (hgd : o.guard = none) (m x : Operand) (hop : o.op = Op.lookup t m x false)
    (hm : a.eval m = .map (some b)) (hx : a.eval x = ek k) (hK : ∀ y : β, KK (a.put o.dst (ev y)) W) :
    if Region.wanted o (yielded ops a.tmps) = true then Oper.wp Tryz.prog o a W KK Q else E := by
  rw [if_pos (wanted_of hgd)]
  obtain ⟨r, _, _, hrun⟩ := h.look K ht (hz W) hk
  unfold Oper.wp
  simp [execOp, hop, hm, hx, hrun, Result.andThen]
  exact hK r.1
theorem step_entry (t e : TypeId) (K : KeyK T ek Ok) (ht : Tryz.prog.underlying t = some (.map T e)) {z : β} (hz : ∀ u, (zeroValue e).run Tryz.prog u = .ok (ev z) u) (h : MapIs W b ek ev Ok l) {k : α} (hk : Ok k) (hgd : o.guard = none) (m x : Operand) (hop : o.op = Op.mapEntry t m x)
    (hm : a.eval m = .map (some b)) (hx : a.eval x = ek k) (hK : ∀ (y : β) (st : Nat) (W1 : World) (l1 : List (α × β)), l1.map Prod.fst = addKey (l.map Prod.fst) k → MapSt W1 b ek ev Ok l1 st → W.grownBy W1 (some b) → KK (a.put o.dst (.tuple #[ev y, .int .i64 (st : Nat)])) W1) :
    if Region.wanted o (yielded ops a.tmps) = true then Oper.wp Tryz.prog o a W KK Q else E := by
  rw [if_pos (wanted_of hgd)]
  obtain ⟨y, st, W1, l1, hrun, h1, h2, h3, _⟩ := h.entry K ht hz hk
  unfold Oper.wp
  simp [execOp, hop, hm, hx, hrun, Result.andThen]
  exact hK y st W1 l1 h1 h2 h3
omit [DecidableEq α] in
theorem step_estore (t : TypeId) (h : MapSt W b ek ev Ok l st) (y : β) (hgd : o.guard = none) (m s x : Operand) (hop : o.op = Op.entryStore t m s x)
    (hm : a.eval m = .map (some b)) (hs : a.eval s = .int .i64 (st : Nat)) (hx : a.eval x = ev y) (hK : ∀ (W1 : World) (l1 : List (α × β)), l1.map Prod.fst = l.map Prod.fst → MapIs W1 b ek ev Ok l1 → W.grownBy W1 (some b) → KK (a.put o.dst undef) W1) :
    if Region.wanted o (yielded ops a.tmps) = true then Oper.wp Tryz.prog o a W KK Q else E := by
  rw [if_pos (wanted_of hgd)]
  obtain ⟨W1, l1, hrun, h1, h2, h3, _⟩ := h.store t y
  unfold Oper.wp
  simp [execOp, hop, hm, hs, hx, hrun, Result.andThen]
  exact hK W1 l1 h1 h2 h3
end
end Go.Proofs.YtbcmnhbpomjinaaGreat
