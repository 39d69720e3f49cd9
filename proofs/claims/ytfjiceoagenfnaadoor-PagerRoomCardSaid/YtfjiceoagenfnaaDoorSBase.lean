/- Layer sector: bytes in memory, rows of bytes of the call's own; maps; rows of items. -/
import Derived.Test.YtfjiceoagenfnaaDoorProg
import Derived.Maps.OwnSet
import Derived.Maps.RangeWalk
import Derived.DeepKeys4
import Derived.WalkKit
import Derived.ProofKit
import Derived.OpenShut
import Derived.Handy
import Derived.Outline
import Derived.BigQuiet
import Derived.BigRegion
import Derived.Deep.QuietTactic
import Derived.Deep.RegionHeld3
import Derived.Deep.RegionWith
import Derived.Laws.Externs
import Derived.Lib.Hide
import Derived.Deep.DeepMust
import Derived.Laws.AppendOwn
import Derived.Laws.AppendOwnNone
import Derived.Maps.AppendAt
import Derived.WalkLawsBesides
import Derived.Deep.DeepCutAuto
import Derived.Deep.LoopGhost
import Derived.Deep.Light
import Derived.Laws.IdiomStrings
import Derived.Laws.BitsAll
import Derived.Laws.ShiftsVar
import Derived.Laws.MakeOwn
import Derived.Lib.ConvBytes
import Derived.Lib.LaidTab
import Derived.Lib.SliceRun
namespace Go.Proofs.YtfjiceoagenfnaaDoor
open Go.RowKit Go.Lib Go.ChangeMaps Go.MapKept

/-- A slice of bytes in memory. -/
def BytesAt (w : World) (p : Option Addr) (n : Nat) (bs : List UInt8) : Prop := 0 < n → ∃ b o, p = some ⟨b, o, none⟩ ∧ ∀ i, i < n → w.cell? ⟨b, o + i, none⟩ = some (.int .u8 (bs.getD i 0).toNat)
theorem bcell {W w1 : World} (hb : Below W.heap.size W w1) : (∀ b o, b < W.heap.size → w1.cell? ⟨b, o, none⟩ = W.cell? ⟨b, o, none⟩) ∧ (∀ b o, b < W.heap.size → w1.frozen? ⟨b, o, none⟩ = W.frozen? ⟨b, o, none⟩) :=
  ⟨fun b o h => hb.cell (p := ⟨b, o, none⟩) h, fun b o h => hb.frozen (p := ⟨b, o, none⟩) h⟩
theorem blk_cell {w : World} {g : Nat} {t : TypeId} {cs : Array Value} (h : w.heap[g]? = some (.cells cs t (0, 0))) (i : Nat) : w.cell? ⟨g, i, none⟩ = cs[i]? := cell_of_row w g i cs t (0, 0) h
theorem blk_frozen {w : World} {g : Nat} {t : TypeId} {cs : Array Value} (h : w.heap[g]? = some (.cells cs t (0, 0))) (i : Nat) : w.frozen? ⟨g, i, none⟩ = false := by
  simp [World.frozen?, h]
theorem blk_lt {w : World} {g : Nat} {o : Obj} (h : w.heap[g]? = some o) : g < w.heap.size := by
  rcases Nat.lt_or_ge g w.heap.size with hlt | hge
  · exact hlt
  · rw [Array.getElem?_eq_none hge] at h; cases h
theorem blk_alloc {w : World} {g : Nat} {o : Obj} (h : w.heap[g]? = some o) (o' : Obj) : (w.alloc o').heap[g]? = some o := (Below.heap_alloc w o' g (blk_lt h)).trans h
theorem blk_set {w : World} {g : Nat} {t : TypeId} {cs : Array Value} (h : w.heap[g]? = some (.cells cs t (0, 0))) (i : Nat) (x : Value) :
    (w.setCell ⟨g, i, none⟩ x).heap[g]? = some (.cells (cs.setIfInBounds i x) t (0, 0)) := by
  simp [World.setCell, Array.getElem?_modify, h]
theorem grew_of {w W : World} (h : Below w.heap.size w W) (b : Option Nat) : w.grownBy W b := ⟨h.os, h.tape, h.output, h.size, fun k hk _ => h.block k hk⟩
theorem grew_set {w W : World} {b : Nat} (h : w.grownBy W (some b)) (i : Nat) (x : Value) : w.grownBy (W.setCell ⟨b, i, none⟩ x) (some b) :=
  ⟨h.os, h.tape, h.output, by simpa [World.setCell] using h.size, fun k hk hn => (Below.heap_setCell _ _ _ k (fun e => hn (by rw [e]))).trans (h.block k hk hn)⟩
theorem grew_alloc {w W : World} {b : Option Nat} (h : w.grownBy W b) (o : Obj) : w.grownBy (W.alloc o) b := h.trans (World.grownBy_alloc W o b)
theorem grew_drew {w W : World} {b : Option Nat} (h : w.grownBy W b) : w.grownBy W.drew b := ⟨h.os, h.tape, h.output, h.size, h.block⟩
theorem grew_drewN {w W : World} {b : Option Nat} (h : w.grownBy W b) (n : Nat) : w.grownBy (W.drewN n) b := ⟨h.os, h.tape, h.output, h.size, h.block⟩
theorem below_of {w W W' : World} {b : Nat} (h : Below w.heap.size w W) (hb : w.heap.size ≤ b) (hg : W.grownBy W' (some b)) : Below w.heap.size w W' :=
  h.grown hg h.size (fun k e => by cases e; exact hb)
theorem bytes_on {W W' : World} {A : Option Addr} {n : Nat} {s : List UInt8} {q : Option Nat} (h : BytesAt W A n s) (hg : W.grownBy W' q) (hf : ∀ ad, A = some ad → some ad.block ≠ q) : BytesAt W' A n s := fun h0 => by
  obtain ⟨g, o, rfl, hc⟩ := h h0
  exact ⟨g, o, rfl, fun i hi => hg.cell (hc i hi) (hf ⟨g, o, none⟩ rfl)⟩
def advA (A : Option Addr) (c p : Nat) : Option Addr := if c = p then A else A.map (fun x => x.add p)
theorem run_from (A : Option Addr) (n c p : Nat) (hp : p ≤ n) (w : World) :
    (Instr.slice 34 (.slice A n c) (some (.int .i64 p)) none none).run Tryd.prog w = .ok (.slice (advA A c p) (n - p) (c - p)) w := by
  have h1 := Tryd.underlying34
  have h2 := Tryd.sizeOf5
  have h3 : Tryd.prog.elem 34 = 5 := by kernel_rfl
  rw [run_slice_l (P := Tryd.prog) (t := 34) (a := A) (len := n) (cap := c) (ht := by rw [h3]; exact h1) (kl := .i64) (l := p) (h0 := by omega) (h1 := by omega), h3, h2]
  simp [Result.andThen, sliced, advA]
theorem adv_bytes {W : World} {A : Option Addr} {c p : Nat} {s : List UInt8} (h : BytesAt W A s.length s) (hp : p ≤ s.length) (hc : s.length ≤ c) : BytesAt W (advA A c p) (s.length - p) (s.drop p) := fun h0 => by
  obtain ⟨g, o, rfl, hh⟩ := h (by omega)
  refine ⟨g, o + p, ?_, fun i hi => ?_⟩
  · unfold advA
    rw [if_neg (by omega)]
    simp [Addr.add]
  · have := hh (p + i) (by omega)
    rw [← Nat.add_assoc] at this
    rw [this]
    simp [List.getD_eq_getElem?_getD, List.getElem?_drop]
theorem run_range (A : Option Addr) (n c p m : Nat) (hp : p ≤ m) (hm : m ≤ n) (hn : n ≤ c) (w : World) :
    (Instr.slice 34 (.slice A n c) (some (.int .i64 p)) (some (.int .i64 m)) none).run Tryd.prog w = .ok (.slice (advA A c p) (m - p) (c - p)) w := by
  have h1 := Tryd.underlying34
  have h2 := Tryd.sizeOf5
  have h3 : Tryd.prog.elem 34 = 5 := by kernel_rfl
  rw [run_slice_lh (P := Tryd.prog) (t := 34) (a := A) (len := n) (cap := c) (ht := by rw [h3]; exact h1) (kl := .i64) (l := p) (kh := .i64) (h := m) (h0 := by omega) (h1 := by omega) (h2 := by omega), h3, h2]
  simp [Result.andThen, sliced, advA]
/-- Bytes as cells. -/
def byV (l : List UInt8) : List Value := l.map fun x => .int .u8 (x.toNat : Nat)
theorem byV_len (l : List UInt8) : (byV l).length = l.length := by simp [byV]
/-- A slice of bytes of the call's own. -/
def BRow (w0 : World) (v : Value) (l : List UInt8) (W : World) : Prop := Below w0.heap.size w0 W ∧ W.ownsRow w0.heap.size 5 1 v l.length (byV l)
theorem infoB : (Tryd.prog.info? 5).map (fun i => (i.zero, i.size, i.bytes)) = some (some (.int .u8 0), 1, 1) := by kernel_rfl
theorem BRow.at {w0 W : World} {v : Value} {l : List UInt8} (h : BRow w0 v l W) : ∃ A c, v = .slice A l.length c ∧ BytesAt W A l.length l ∧ (∀ ad, A = some ad → w0.heap.size ≤ ad.block ∧ ad.block < W.heap.size) ∧ l.length ≤ c ∧ c ≤ maxLen := by
  rcases h.2.2 with ⟨rfl, h0⟩ | ⟨g, cap, cur, rfl, hg0, hg, hn, hm, hs, ht⟩
  · rw [h0]
    exact ⟨none, 0, rfl, fun h1 => absurd h1 (by omega), fun ad e => (by cases e), Nat.le_refl _, by unfold maxLen; omega⟩
  · refine ⟨_, cap, rfl, fun h0 => ⟨g, 0, rfl, fun i hi => ?_⟩, fun ad e => (by cases e; exact ⟨hg0, blk_lt hg⟩), hn, hm⟩
    rw [Nat.zero_add, blk_cell hg i, ← Array.getElem?_toList]
    have := congrArg (·[i]?) ht
    simp only [List.getElem?_take, Nat.mul_one, hi, if_true] at this
    rw [this]
    simp [byV, List.getD_eq_getElem?_getD, List.getElem?_eq_getElem hi]
theorem append_by {w0 W : World} {v : Value} {l : List UInt8} (HR : BRow w0 v l W) (qs : List UInt8) (A : Option Addr) (c : Nat) (hq : BytesAt W A qs.length qs) (hnil : A = none → c = 0) (hb : l.length + qs.length ≤ 140737488355328)
    {ops : Array Oper} {rest : List Oper} {o : Oper} {a : Act} {Q : Exit → Act → World → Prop} (hgd : o.guard = none) (s x : Operand)
    (ho : o.op = .call { callee := .builtin .append, args := #[s, x], argTypes := #[34, 34] })
    (hs : a.eval s = v) (hx : a.eval x = .slice A qs.length c)
    (h : ∀ v' w', BRow w0 v' (l ++ qs) w' → wpList Tryd.prog ops Q rest (a.put o.dst v') w') :
    wpList Tryd.prog ops Q (o :: rest) a W := by
  obtain ⟨i0, z, hi, hz0, hz1, hz2⟩ : ∃ i z, Tryd.prog.info? 5 = some i ∧ i.zero = some z ∧ i.size = 1 ∧ (i.bytes = 1 ∧ z.cells.size = 1) := by
    obtain ⟨i, h1, h2, h3, h4⟩ := info_parts infoB
    exact ⟨i, _, h1, h2, h3, h4, rfl⟩
  cases A with
  | none =>
    obtain rfl : qs = [] := by
      cases qs with
      | nil => rfl
      | cons p q => obtain ⟨_, _, e, _⟩ := hq (by simp); cases e
    obtain rfl := hnil rfl
    refine wpList_append_own_none hgd s x 34 ho w0.heap.size 5 i0 1 Tryd.underlying34 hi v l.length (byV l) hs HR.2 hx ?_
    have := h v W (by rw [List.append_nil]; exact HR)
    exact this
  | some ad =>
    refine wpList_append_own_at _ hgd s x 34 ho w0.heap.size 5 i0 z 1 1 Tryd.underlying34 hi hz0 hz1 hz2.1 hz2.2 (by decide) v l.length (byV l) hs HR.2 ad qs.length c (byV qs) hx (by rw [byV_len, Nat.mul_one]) (fun j u hu => ?_) (fun u hu => ?_) (by unfold maxLen; omega) (by omega) HR.1.size ?_
    · have hj : j < qs.length := by
        have := (List.getElem?_eq_some_iff.1 hu).1
        rwa [byV_len] at this
      obtain ⟨g, o', e, hc⟩ := hq (by omega)
      cases e
      rw [show (⟨g, o', none⟩ : Addr).add j = ⟨g, o' + j, none⟩ by simp [Addr.add], hc j hj, ← hu]
      simp [byV, List.getD_eq_getElem?_getD, List.getElem?_eq_getElem hj]
    · obtain ⟨y, _, rfl⟩ := List.mem_map.1 hu
      rfl
    · intro v' w' hown hgrow _ _
      have hgb : Below w0.heap.size w0 w' := by
        exact HR.1.grown hgrow HR.1.size (fun k hk => (HR.2.lt k hk).1)
      refine h v' w' ⟨hgb, ?_⟩
      rw [List.length_append]
      have : byV (l ++ qs) = byV l ++ byV qs := by simp [byV]
      rw [this]
      exact hown
theorem BRow.none (w : World) : BRow w (.slice none 0 0) [] w := ⟨Below.refl _ _, World.ownsRow_nil w _ _ _⟩
theorem BRow.made (w0 W : World) (hb : Below w0.heap.size w0 W) : BRow w0 (.slice (some ⟨W.heap.size, 0, Option.none⟩) 0 0) [] (W.alloc (Obj.cells #[] 5 (0, 0))) :=
  ⟨hb.alloc hb.size _, by
    have := World.ownsRow_made W #[] 0 (e := 5) (size := 1) hb.size (by unfold maxLen; omega) rfl
    exact this⟩
theorem BRow.on {w0 W W' : World} {v : Value} {l : List UInt8} (h : BRow w0 v l W) (hb : Below W.heap.size W W') : BRow w0 v l W' :=
  ⟨h.1.trans (hb.mono h.1.size), h.2.1, by
    rcases h.2.2 with hn | ⟨g, cap, cur, rfl, hg0, hg, r⟩
    · exact .inl hn
    · exact .inr ⟨g, cap, cur, rfl, hg0, (hb.block g (blk_lt hg)).trans hg, r⟩⟩
theorem conv_str {W : World} {A : Option Addr} {c : Nat} {s : List UInt8} (h : BytesAt W A s.length s) :
    (convert 34 9 (.slice A s.length c)).run Tryd.prog W = .ok (.string ⟨s.toArray⟩) W := by
  have hs := Tryd.underlying34
  have he := Tryd.underlying5
  have hd := Tryd.underlying9
  cases A with
  | none =>
    obtain rfl : s = [] := by
      cases s with
      | nil => rfl
      | cons p q => obtain ⟨_, _, e, _⟩ := h (by simp); cases e
    rw [run_convert_bytes_nil W 34 5 hs he _ _ _ hd]
    rfl
  | some ad =>
    refine run_convert_bytes_back (P := Tryd.prog) W 34 9 5 ad c s hs he hd (fun j hj => ?_)
    obtain ⟨g, o, e, hh⟩ := h (by omega)
    cases e
    rw [show (⟨g, o, none⟩ : Addr).add j = ⟨g, o + j, none⟩ by simp [Addr.add], hh j hj]
    simp [List.getD_eq_getElem?_getD, List.getElem?_eq_getElem hj]
theorem bytes_lit {W : World} {t : TypeId} {s : List UInt8} {cs : Array Value} {fr : Nat × Nat} (h : cs.toList = s.map fun x => (.int .u8 (x.toNat : Nat) : Value)) : BytesAt (W.alloc (Obj.cells cs t fr)) (some ⟨W.heap.size, 0, none⟩) s.length s := fun h0 => by
  refine ⟨W.heap.size, 0, rfl, fun i hi => ?_⟩
  have hc : (W.alloc (Obj.cells cs t fr)).cell? ⟨W.heap.size, i, none⟩ = cs[i]? := by unfold World.cell?; rw [heap_alloc_new]; rfl
  rw [Nat.zero_add, hc, ← Array.getElem?_toList, h]
  simp [List.getD_eq_getElem?_getD, List.getElem?_eq_getElem hi]
theorem conv_bytes (W : World) (s : ByteArray) (hs : s.size ≤ 2097152) : ∃ W1 cap, (convert 9 34 (.string s)).run Tryd.prog W = .ok (.slice (some ⟨W.heap.size, 0, none⟩) s.size cap) W1 ∧ Below W.heap.size W W1 ∧ W1.heap.size = W.heap.size + 1 ∧
    BytesAt W1 (some ⟨W.heap.size, 0, none⟩) s.data.toList.length s.data.toList ∧ s.size ≤ cap ∧ cap ≤ 9223372036854775807 := by
  refine ⟨_, _, Lib.run_convert_string_bytes (P := Tryd.prog) W 9 34 5 s Tryd.underlying9 Tryd.underlying34 Tryd.underlying5, ⟨?_, ?_, ?_, ?_, ?_⟩, Lib.bytesWorld_size _ _ _, fun h0 => ?_, Go.grownCap_ge _ _ _ _, ?_⟩
  · rfl
  · rfl
  · rfl
  · rw [Lib.bytesWorld_size]; omega
  · intro k hk; exact Lib.bytesWorld_at_old W _ s k hk
  · refine ⟨W.heap.size, 0, rfl, fun i hi => ?_⟩
    rw [Nat.zero_add]
    exact Lib.bytesWorld_cell W _ s i (hi)
  · have := Go.grownCap_le_maxLen W s.size 0 5 (by unfold maxLen; omega)
    unfold maxLen at this
    omega

theorem BRow.setd {w0 W : World} {g c : Nat} {l : List UInt8} (h : BRow w0 (.slice (some ⟨g, 0, Option.none⟩) l.length c) l W) (i : Nat) (x : UInt8) :
    BRow w0 (.slice (some ⟨g, 0, Option.none⟩) l.length c) (l.set i x) (W.setCell ⟨g, i, Option.none⟩ (.int .u8 (x.toNat : Nat))) := by
  refine ⟨below_of h.1 (h.2.lt g rfl).1 (grew_set (World.grownBy.refl W (some g)) i _), ?_⟩
  have := (h.2.stored i (.int .u8 (x.toNat : Nat))).1
  rw [List.length_set]
  have e : byV (l.set i x) = (byV l).set i (.int .u8 (x.toNat : Nat)) := by simp [byV, List.map_set]
  rw [e]
  exact this

/-- A kind of keys: how one lies, and which are keys. -/
structure KeyK {α : Type} (T : TypeId) (ek : α → Value) (Ok : α → Prop) : Prop where
  K : Go.Maps.Keyed Tryd.prog T
  lit : ∀ a, Ok a → ∃ l, keyOf Tryd.prog T (ek a) = some l
  inj : ∀ a b, ek a = ek b → a = b
/-- Block b is a map that holds these keys with these elements, in the order in which the keys came. -/
def MapIs {α β : Type} (W : World) (b : Nat) (ek : α → Value) (ev : β → Value) (Ok : α → Prop) (l : List (α × β)) : Prop :=
  ∃ es clock, W.heap[b]? = some (.map es clock) ∧ es.toList.map (fun e => (e.key, e.val)) = l.map (fun p => (ek p.1, ev p.2)) ∧ Stamped es clock ∧ ∀ p ∈ l, Ok p.1
section
variable {α β : Type} {T : TypeId} {ek : α → Value} {ev : β → Value} {Ok : α → Prop} {W W' : World} {b : Nat} {l : List (α × β)}
theorem MapIs.made (w : World) : MapIs (w.alloc (.map #[] 0)) w.heap.size ek ev Ok ([] : List (α × β)) := ⟨#[], 0, heap_alloc_new w _, rfl, stamped_empty 0, fun _ h => by cases h⟩
theorem MapIs.lt (h : MapIs W b ek ev Ok l) : b < W.heap.size := by
  obtain ⟨es, c, hb, _⟩ := h
  exact blk_lt hb
theorem MapIs.at (h : MapIs W b ek ev Ok l) (hh : W'.heap[b]? = W.heap[b]?) : MapIs W' b ek ev Ok l := by
  obtain ⟨es, c, hb, r⟩ := h
  exact ⟨es, c, hh.trans hb, r⟩
theorem MapIs.on {B : Nat} (h : MapIs W b ek ev Ok l) (hb : Below B W W') (hlt : b < B) : MapIs W' b ek ev Ok l := h.at (hb.block _ hlt)
theorem MapIs.drew (h : MapIs W b ek ev Ok l) : MapIs W.drew b ek ev Ok l := h
theorem MapIs.alloc (h : MapIs W b ek ev Ok l) (o : Obj) : MapIs (W.alloc o) b ek ev Ok l := h.at (Below.heap_alloc W o b h.lt)
theorem MapIs.setCell (h : MapIs W b ek ev Ok l) {a : Addr} (ha : b ≠ a.block) (u : Value) : MapIs (W.setCell a u) b ek ev Ok l := h.at (RowKit.Below.heap_setCell _ _ _ _ ha)
theorem MapIs.kept {row : Option Nat} (h : MapIs W b ek ev Ok l) (hg : W.grownBy W' row) (hne : some b ≠ row) : MapIs W' b ek ev Ok l := h.at (hg.block b h.lt hne)
theorem entry_of {es : List MapEntry} (hl : es.map (fun e => (e.key, e.val)) = l.map (fun p => (ek p.1, ev p.2))) {e : MapEntry} (he : e ∈ es) : ∃ p ∈ l, e.key = ek p.1 ∧ e.val = ev p.2 := by
  have : (e.key, e.val) ∈ l.map (fun p => (ek p.1, ev p.2)) := hl ▸ List.mem_map.2 ⟨e, he, rfl⟩
  obtain ⟨p, hp, hh⟩ := List.mem_map.1 this
  exact ⟨p, hp, (congrArg Prod.fst hh).symm, (congrArg Prod.snd hh).symm⟩
theorem of_entry {es : List MapEntry} (hl : es.map (fun e => (e.key, e.val)) = l.map (fun p => (ek p.1, ev p.2))) {p : α × β} (hp : p ∈ l) : ∃ e ∈ es, e.key = ek p.1 ∧ e.val = ev p.2 := by
  have : (ek p.1, ev p.2) ∈ es.map (fun e => (e.key, e.val)) := hl ▸ List.mem_map.2 ⟨p, hp, rfl⟩
  obtain ⟨e, he, hh⟩ := List.mem_map.1 this
  exact ⟨e, he, congrArg Prod.fst hh, congrArg Prod.snd hh⟩
/-- No key stands twice. -/
theorem MapIs.nodup (h : MapIs W b ek ev Ok l) : (l.map Prod.fst).Nodup := by
  obtain ⟨es, c, _, hl, hs, _⟩ := h
  have h3 := ((stamped_iff es c).1 hs).2.2
  have h4 : (es.toList.map (fun e => (e.key, e.val))).Pairwise (fun x y => x.1 ≠ y.1) := List.pairwise_map.2 h3
  rw [hl, List.pairwise_map] at h4
  exact List.pairwise_map.2 (h4.imp (fun h e => h (by rw [e])))
/-- What a key's element is. -/
def Got (l : List (α × β)) (z : β) (a : α) (r : β × Bool) : Prop := (a ∉ l.map Prod.fst ∧ r = (z, false)) ∨ (r.2 = true ∧ (a, r.1) ∈ l)
variable {t e : TypeId}
/-- A look-up. -/
theorem MapIs.look (h : MapIs W b ek ev Ok l) (K : KeyK T ek Ok) (ht : Tryd.prog.underlying t = some (.map T e)) {z : β} (hz : (zeroValue e).run Tryd.prog W = .ok (ev z) W) {a : α} (ha : Ok a) :
    ∃ r, Got l z a r ∧ (Instr.lookup t (.map (some b)) (ek a) true).run Tryd.prog W = .ok (.tuple #[ev r.1, .bool r.2]) W ∧ (Instr.lookup t (.map (some b)) (ek a) false).run Tryd.prog W = .ok (ev r.1) W := by
  obtain ⟨es, c, hb, hl, hs, hok⟩ := h
  obtain ⟨kl, hkey⟩ := K.lit a ha
  have hks : ∀ x ∈ es.toList, ∃ y, keyOf Tryd.prog T x.key = some y := fun x hx => by
    obtain ⟨p, hp, e1, _⟩ := entry_of hl hx
    rw [e1]
    exact K.lit _ (hok p hp)
  rcases K.K.find W hkey es.toList hks with ⟨h1, h2⟩ | ⟨j, e0, h1, h2, h3⟩
  · refine ⟨(z, false), .inl ⟨fun hm => ?_, rfl⟩, ?_, ?_⟩
    · obtain ⟨p, hp, e1⟩ := List.mem_map.1 hm
      obtain ⟨x, hx, e2, _⟩ := of_entry hl hp
      exact h2 x hx (by rw [e2, e1])
    · simp [Instr.lookup, run_underlying ht, MapKept.run_getObj_map hb, K.K.check W _ hkey, h1, hz, Result.andThen]
    · simp [Instr.lookup, run_underlying ht, MapKept.run_getObj_map hb, K.K.check W _ hkey, h1, hz, Result.andThen]
  · obtain ⟨p, hp, e1, e2⟩ := entry_of hl (List.mem_of_getElem? h2)
    have e3 : a = p.1 := K.inj _ _ (by rw [← h3, e1])
    refine ⟨(p.2, true), .inr ⟨rfl, by rw [e3]; exact hp⟩, ?_, ?_⟩
    · simp [Instr.lookup, run_underlying ht, MapKept.run_getObj_map hb, K.K.check W _ hkey, h1, e2, Result.andThen]
    · simp [Instr.lookup, run_underlying ht, MapKept.run_getObj_map hb, K.K.check W _ hkey, h1, e2, Result.andThen]
/-- A store at a new key. -/
theorem MapIs.store (h : MapIs W b ek ev Ok l) (K : KeyK T ek Ok) (ht : Tryd.prog.underlying t = some (.map T e)) {a : α} (ha : Ok a) (hn : a ∉ l.map Prod.fst) (v : β) :
    ∃ W', (Instr.mapUpdate t (.map (some b)) (ek a) (ev v)).run Tryd.prog W = .ok () W' ∧ MapIs W' b ek ev Ok (l ++ [(a, v)]) ∧ W.grownBy W' (some b) ∧ W'.heap.size = W.heap.size := by
  obtain ⟨es, c, hb, hl, hs, hok⟩ := h
  obtain ⟨kl, hkey⟩ := K.lit a ha
  have hks : ∀ x ∈ es.toList, ∃ y, keyOf Tryd.prog T x.key = some y := fun x hx => by
    obtain ⟨p, hp, e1, _⟩ := entry_of hl hx
    rw [e1]
    exact K.lit _ (hok p hp)
  rcases K.K.find W hkey es.toList hks with ⟨h1, h2⟩ | ⟨j, e0, h1, h2, h3⟩
  · refine ⟨setBlock W b (.map (es.push ⟨ek a, ev v, c⟩) (c + 1)), ?_, ⟨_, _, heap_setBlock_same hb _, ?_, stamped_push hs h2, ?_⟩, ⟨rfl, rfl, rfl, by simp [setBlock], fun i _ hi => heap_setBlock_other hb _ (fun e => hi (by rw [e]))⟩, by simp [setBlock]⟩
    · simp [Instr.mapUpdate, run_underlying ht, MapKept.run_getObj_map hb, K.K.check W false hkey, h1, MapKept.run_setObj_map _ hb, Result.andThen, setBlock]
    · rw [Array.toList_push, List.map_append, List.map_append, hl]; rfl
    · intro p hp
      rcases List.mem_append.1 hp with hp | hp
      · exact hok p hp
      · rw [List.mem_singleton.1 hp]; exact ha
  · obtain ⟨p, hp, e1, e2⟩ := entry_of hl (List.mem_of_getElem? h2)
    have e3 : a = p.1 := K.inj _ _ (by rw [← h3, e1])
    exact absurd (List.mem_map.2 ⟨p, hp, e3.symm⟩) hn
/-- How many there are. -/
theorem MapIs.len (h : MapIs W b ek ev Ok l) (ht : Tryd.prog.underlying t = some (.map T e)) (ty : TypeId) : (Builtin.len_ #[t] ty #[.map (some b)]).run Tryd.prog W = .ok (.int .i64 l.length) W := by
  obtain ⟨es, c, hb, hl, _⟩ := h
  have e1 : es.size = l.length := by rw [← Array.length_toList, ← List.length_map (f := fun e : MapEntry => (e.key, e.val)), hl, List.length_map]
  simp [Builtin.len_, run_underlying ht, MapKept.run_getObj_map hb, goInt, Result.andThen, e1]
end
section
variable {α β : Type} {T : TypeId} {ek : α → Value} {ev : β → Value} {Ok : α → Prop} {W : World} {b : Nat} {l : List (α × β)} {t e : TypeId} {ops : Array Oper} {rest : List Oper} {o : Oper} {a : Act} {Q : Exit → Act → World → Prop}
theorem wp_look (hg : o.guard = none) (m x : Operand) (t : TypeId) (hop : o.op = Op.lookup t m x true) (e : TypeId) (K : KeyK T ek Ok) (ht : Tryd.prog.underlying t = some (.map T e)) {z : β} (hz : (zeroValue e).run Tryd.prog W = .ok (ev z) W) (b : Nat)
    (hm : a.eval m = .map (some b)) (h : MapIs W b ek ev Ok l) {k : α} (hk : Ok k) (hx : a.eval x = ek k)
    (hK : ∀ r, Got l z k r → wpList Tryd.prog ops Q rest (a.put o.dst (.tuple #[ev r.1, .bool r.2])) W) : wpList Tryd.prog ops Q (o :: rest) a W := by
  refine wpList_plain hg fun K' hK' => ?_
  obtain ⟨r, hr, hrun, _⟩ := h.look K ht hz hk
  unfold Oper.wp
  simp [execOp, hop, hm, hx, hrun, Result.andThen]
  exact hK' _ _ (hK r hr)
theorem wp_store (hg : o.guard = none) (m x v : Operand) (t : TypeId) (hop : o.op = Op.mapUpdate t m x v) (e : TypeId) (K : KeyK T ek Ok) (ht : Tryd.prog.underlying t = some (.map T e)) (b : Nat)
    (hm : a.eval m = .map (some b)) (h : MapIs W b ek ev Ok l) {k : α} (hk : Ok k) (hn : k ∉ l.map Prod.fst) {y : β} (hx : a.eval x = ek k) (hv : a.eval v = ev y)
    (hK : ∀ W', MapIs W' b ek ev Ok (l ++ [(k, y)]) → W.grownBy W' (some b) → W'.heap.size = W.heap.size → wpList Tryd.prog ops Q rest (a.put o.dst undef) W') : wpList Tryd.prog ops Q (o :: rest) a W := by
  refine wpList_plain hg fun K' hK' => ?_
  obtain ⟨W', hrun, r1, r2, r3⟩ := h.store K ht hk hn y
  unfold Oper.wp
  simp [execOp, hop, hm, hx, hv, hrun, Result.andThen]
  exact hK' _ _ (hK W' r1 r2 r3)
theorem wp_len (hg : o.guard = none) (m : Operand) (t : TypeId) (hop : o.op = Op.call { callee := Callee.builtin Builtin.len, args := #[m], argTypes := #[t] }) (T e : TypeId) (ht : Tryd.prog.underlying t = some (.map T e)) (b : Nat)
    (hm : a.eval m = .map (some b)) (h : MapIs W b ek ev Ok l) (hK : wpList Tryd.prog ops Q rest (a.put o.dst (.int .i64 l.length)) W) : wpList Tryd.prog ops Q (o :: rest) a W := by
  refine wpList_plain hg fun K' hK' => ?_
  unfold Oper.wp
  simp [execOp, hop, resolve, invoke, builtin, hm, h.len ht o.type, Result.andThen]
  exact hK' _ _ hK
end

section
variable {α β : Type} {T : TypeId} {ek : α → Value} {ev : β → Value} {Ok : α → Prop} {W W' : World} {b : Nat} {l : List (α × β)} {t e : TypeId} {ops : Array Oper} {rest : List Oper} {o : Oper} {a : Act} {Q : Exit → Act → World → Prop}
/-- A look-up of a key that is not there, and of one that is. -/
theorem wp_look_no (hg : o.guard = none) (m x : Operand) (t : TypeId) (hop : o.op = Op.lookup t m x true) (e : TypeId) (K : KeyK T ek Ok) (ht : Tryd.prog.underlying t = some (.map T e)) {z : β} (hz : (zeroValue e).run Tryd.prog W = .ok (ev z) W) (b : Nat)
    (hm : a.eval m = .map (some b)) (h : MapIs W b ek ev Ok l) {k : α} (hk : Ok k) (hn : k ∉ l.map Prod.fst) (hx : a.eval x = ek k)
    (hK : wpList Tryd.prog ops Q rest (a.put o.dst (.tuple #[ev z, .bool false])) W) : wpList Tryd.prog ops Q (o :: rest) a W :=
  wp_look hg m x t hop e K ht hz b hm h hk hx fun r hr => by
    rcases hr with ⟨_, rfl⟩ | ⟨_, hr⟩
    · exact hK
    · exact absurd (List.mem_map.2 ⟨_, hr, rfl⟩) hn
theorem wp_look_yes (hg : o.guard = none) (m x : Operand) (t : TypeId) (hop : o.op = Op.lookup t m x true) (e : TypeId) (K : KeyK T ek Ok) (ht : Tryd.prog.underlying t = some (.map T e)) {z : β} (hz : (zeroValue e).run Tryd.prog W = .ok (ev z) W) (b : Nat)
    (hm : a.eval m = .map (some b)) (h : MapIs W b ek ev Ok l) {k : α} (hk : Ok k) (hn : k ∈ l.map Prod.fst) (hx : a.eval x = ek k)
    (hK : ∀ y, (k, y) ∈ l → wpList Tryd.prog ops Q rest (a.put o.dst (.tuple #[ev y, .bool true])) W) : wpList Tryd.prog ops Q (o :: rest) a W :=
  wp_look hg m x t hop e K ht hz b hm h hk hx fun r hr => by
    rcases hr with ⟨hr, _⟩ | ⟨h1, hr⟩
    · exact absurd hn hr
    · rw [h1]; exact hK _ hr
end
theorem set_of {γ δ ε : Type} {f : γ → ε} {g : δ → ε} {xs : List γ} {ys : List δ} (h : xs.map f = ys.map g) (i : Nat) {x : γ} {y : δ} (hxy : f x = g y) : (xs.set i x).map f = (ys.set i y).map g := by
  rw [List.map_set, List.map_set, h, hxy]
section
variable {α β : Type} {T : TypeId} {ek : α → Value} {ev : β → Value} {Ok : α → Prop} {W W' : World} {b : Nat} {l : List (α × β)} {t e : TypeId}
/-- A store at any key: what stood there goes. -/
theorem MapIs.putAny (h : MapIs W b ek ev Ok l) (K : KeyK T ek Ok) (ht : Tryd.prog.underlying t = some (.map T e)) {a : α} (ha : Ok a) (v : β) :
    ∃ W' l', (Instr.mapUpdate t (.map (some b)) (ek a) (ev v)).run Tryd.prog W = .ok () W' ∧ MapIs W' b ek ev Ok l' ∧ (∀ p, p ∈ l' ↔ p = (a, v) ∨ (p ∈ l ∧ p.1 ≠ a)) ∧ l'.length ≤ l.length + 1 ∧ W.grownBy W' (some b) ∧ W'.heap.size = W.heap.size := by
  by_cases hn : a ∈ l.map Prod.fst
  · have hnd := h.nodup
    obtain ⟨es, c, hb, hl, hs, hok⟩ := h
    obtain ⟨kl, hkey⟩ := K.lit a ha
    have hks : ∀ x ∈ es.toList, ∃ y, keyOf Tryd.prog T x.key = some y := fun x hx => by
      obtain ⟨p, hp, e1, _⟩ := entry_of hl hx
      rw [e1]
      exact K.lit _ (hok p hp)
    rcases K.K.find W hkey es.toList hks with ⟨h1, h2⟩ | ⟨j, e0, h1, h2, h3⟩
    · obtain ⟨p, hp, e1⟩ := List.mem_map.1 hn
      obtain ⟨x, hx, e2, _⟩ := of_entry hl hp
      exact absurd (by rw [e2, e1]) (h2 x hx)
    · have hj : es[j]? = some e0 := by simpa using h2
      have hjl : j < l.length := by
        have h4 : es.toList.length = l.length := by rw [← List.length_map (f := fun e : MapEntry => (e.key, e.val)), hl, List.length_map]
        have := (List.getElem?_eq_some_iff.1 h2).1
        omega
      have hkp : e0.key = ek l[j].1 := by
        have := congrArg (fun q => q[j]?) hl
        simp only [List.getElem?_map, h2, List.getElem?_eq_getElem hjl, Option.map_some] at this
        exact congrArg Prod.fst (Option.some.inj this)
      have e3 : l[j].1 = a := K.inj _ _ (by rw [← hkp, h3])
      have hlist : (es.modify j (fun e' => { e' with key := ek a, val := ev v })).toList = es.toList.set j { e0 with key := ek a, val := ev v } := by rw [Array.toList_modify, modify_eq_set _ _ _ _ h2]
      refine ⟨setBlock W b (.map (es.modify j fun e => { e with key := ek a, val := ev v }) c), l.set j (a, v), ?_, ⟨_, _, heap_setBlock_same hb _, ?_, stamped_modify hs _ _ (fun _ _ => rfl) (fun x hx _ => ?_), ?_⟩, ?_, ?_, ⟨rfl, rfl, rfl, by simp [setBlock], fun i _ hi => heap_setBlock_other hb _ (fun e => hi (by rw [e]))⟩, by simp [setBlock]⟩
      · simp [Instr.mapUpdate, run_underlying ht, MapKept.run_getObj_map hb, K.K.check W false hkey, h1, hj, h3, K.K.stays W hkey, MapKept.run_setObj_map _ hb, Result.andThen, setBlock]
      · rw [hlist]
        exact set_of hl j rfl
      · rename_i hx2
        rw [hj] at hx2
        obtain rfl := Option.some.inj hx2
        exact h3.symm
      · intro q hq
        rcases List.mem_or_eq_of_mem_set hq with h | rfl
        · exact hok q h
        · exact ha
      · intro p
        constructor
        · intro hp
          obtain ⟨i, hi, hpi⟩ := List.getElem_of_mem hp
          rw [List.length_set] at hi
          rw [List.getElem_set] at hpi
          by_cases hij : j = i
          · rw [if_pos hij] at hpi
            exact .inl hpi.symm
          · rw [if_neg hij] at hpi
            refine .inr ⟨hpi ▸ List.getElem_mem hi, fun e4 => hij ?_⟩
            have h5 : (l.map Prod.fst)[j]'(by simpa using hjl) = (l.map Prod.fst)[i]'(by simpa using hi) := by rw [List.getElem_map, List.getElem_map, e3, hpi, e4]
            exact (List.getElem_inj hnd).1 h5
        · rintro (rfl | ⟨hp, hne⟩)
          · exact List.mem_set hjl _
          · obtain ⟨i, hi, hpi⟩ := List.getElem_of_mem hp
            have hij : j ≠ i := fun e4 => hne (by subst e4; rw [← hpi, e3])
            rw [← hpi]
            refine List.mem_of_getElem? (i := i) ?_
            rw [List.getElem?_set_ne hij, List.getElem?_eq_getElem hi]
      · rw [List.length_set]; omega
  · obtain ⟨W', h1, h2, h3, h4⟩ := h.store K ht ha hn v
    refine ⟨W', _, h1, h2, fun p => ?_, by simp, h3, h4⟩
    rw [List.mem_append, List.mem_singleton]
    constructor
    · rintro (hp | rfl)
      · exact .inr ⟨hp, fun e4 => hn (e4 ▸ List.mem_map_of_mem hp)⟩
      · exact .inl rfl
    · rintro (rfl | ⟨hp, -⟩)
      · exact .inr rfl
      · exact .inl hp
end
section
variable {α β : Type} {T : TypeId} {ek : α → Value} {ev : β → Value} {Ok : α → Prop} {W : World} {b : Nat} {l : List (α × β)} {ops : Array Oper} {rest : List Oper} {o : Oper} {a : Act} {Q : Exit → Act → World → Prop}
theorem wp_putAny (hg : o.guard = none) (m x v : Operand) (t : TypeId) (hop : o.op = Op.mapUpdate t m x v) (e : TypeId) (K : KeyK T ek Ok) (ht : Tryd.prog.underlying t = some (.map T e)) (b : Nat)
    (hm : a.eval m = .map (some b)) (h : MapIs W b ek ev Ok l) {k : α} (hk : Ok k) {y : β} (hx : a.eval x = ek k) (hv : a.eval v = ev y)
    (hK : ∀ W' l', MapIs W' b ek ev Ok l' → (∀ p, p ∈ l' ↔ p = (k, y) ∨ (p ∈ l ∧ p.1 ≠ k)) → l'.length ≤ l.length + 1 → W.grownBy W' (some b) → W'.heap.size = W.heap.size → wpList Tryd.prog ops Q rest (a.put o.dst undef) W') : wpList Tryd.prog ops Q (o :: rest) a W := by
  refine wpList_plain hg fun K' hK' => ?_
  obtain ⟨W', l', hrun, r1, r2, r3, r4, r5⟩ := h.putAny K ht hk y
  unfold Oper.wp
  simp [execOp, hop, hm, hx, hv, hrun, Result.andThen]
  exact hK' _ _ (hK W' l' r1 r2 r3 r4 r5)
end
/-- A kind of items: its type, how an item lies in cells, how many, and how many bytes. -/
structure Kind {α : Type} (T : TypeId) (enc : α → List Value) (n bytes : Nat) : Prop where
  len : ∀ a, (enc a).length = n
  one : ∀ a, ∀ u ∈ enc a, u.oneCell' = true
  pos : 0 < n
  info : ∃ i z, Tryd.prog.info? T = some i ∧ i.zero = some z ∧ i.size = n ∧ i.bytes = bytes ∧ z.cells.size = n
section
variable {α : Type} {T : TypeId} {enc : α → List Value} {n bytes : Nat}
theorem Kind.mk' {z : Value} (hl : ∀ a, (enc a).length = n) (h1 : ∀ a, ∀ u ∈ enc a, u.oneCell' = true) (hp : 0 < n) (hi : (Tryd.prog.info? T).map (fun i => (i.zero, i.size, i.bytes)) = some (some z, n, bytes)) (hz : z.cells.size = n) : Kind T enc n bytes := by
  obtain ⟨i, h2, h3, h4, h5⟩ := info_parts hi
  exact ⟨hl, h1, hp, i, z, h2, h3, h4, h5, hz⟩
theorem flat_len (hk : ∀ a, (enc a).length = n) : ∀ l : List α, (l.flatMap enc).length = l.length * n
  | [] => by simp
  | a :: l => by rw [List.flatMap_cons, List.length_append, hk, flat_len hk l, List.length_cons, Nat.add_mul]; omega
theorem flat_get (hk : ∀ a, (enc a).length = n) : ∀ (l : List α) (k : Nat) (a : α) (i : Nat), l[k]? = some a → i < n → (l.flatMap enc)[k * n + i]? = (enc a)[i]?
  | [], k, a, i, h, _ => by simp at h
  | b :: l, 0, a, i, h, hi => by
    obtain rfl : b = a := by simpa using h
    rw [List.flatMap_cons, Nat.zero_mul, Nat.zero_add, List.getElem?_append_left (by rw [hk]; exact hi)]
  | b :: l, k + 1, a, i, h, hi => by
    rw [List.flatMap_cons, List.getElem?_append_right (by rw [hk, Nat.add_mul]; omega), hk, show (k + 1) * n + i - n = k * n + i by rw [Nat.add_mul]; omega]
    exact flat_get hk l k a i (by simpa using h) hi
theorem flat_one (hk : ∀ a, ∀ u ∈ enc a, u.oneCell' = true) (l : List α) : ∀ u ∈ l.flatMap enc, u.oneCell' = true := fun u hu => by
  obtain ⟨a, _, ha⟩ := List.mem_flatMap.1 hu
  exact hk a u ha
end
section
variable {P : Program} {ops : Array Oper} {Q : Exit → Act → World → Prop} {md : Region.Mode} {S : World → Prop}
/-- An operation that isn't wanted is passed over: it may come up now. -/
theorem takeNone {i : Nat} {oi : Oper} {fuel : Nat} {listed : Array Bool} {a : Act} {w : World} (hr : (Region.ready md ops listed).contains i = true) (hi : ops[i]? = some oi)
    (hw : Region.wanted oi (yielded ops a.tmps) = false) (hf : Region.free md ops listed i = true) (hs : Region.noSelect ops = true)
    (hQ : ∀ c a w, Q (.panic c) (a.put oi.dst undef) w → Q (.panic c) a w) (hS : S w)
    (h : wpAnyH P md ops Q S fuel (listed.setIfInBounds i true) (a.put oi.dst undef) w) : wpAnyH P md ops Q S (fuel + 1) listed a w :=
  wpAnyH_take hi hs hf hr hQ (.inr ⟨hw, rfl⟩) hS h
/-- An operation that yields its value under S is taken first. -/
theorem takeSome {i : Nat} {oi : Oper} {v : Value} {fuel : Nat} {listed : Array Bool} {a : Act} {w : World} (hr : (Region.ready md ops listed).contains i = true) (hi : ops[i]? = some oi)
    (hw : Region.wanted oi (yielded ops a.tmps) = true) (hf : Region.free md ops listed i = true) (hs : Region.noSelect ops = true)
    (hQ : ∀ c a w, Q (.panic c) (a.put oi.dst v) w → Q (.panic c) a w) (hS : S w) (hy : ∀ w, S w → (execOp a.eval oi).run P w = .ok (.value v) w)
    (h : wpAnyH P md ops Q S fuel (listed.setIfInBounds i true) (a.put oi.dst v) w) : wpAnyH P md ops Q S (fuel + 1) listed a w :=
  wpAnyH_take hi hs hf hr hQ (.inl ⟨hw, hy⟩) hS h
end
end Go.Proofs.YtfjiceoagenfnaaDoor
