/- Layer frame: bytes in memory, rows of bytes of the call's own, the table that the sum goes by. -/
import Derived.Test.YtdnfijhclikkfabDoorProg
import Derived.Test.YtdnfijhclikkfabDoorFNum
import Derived.WalkKit
import Derived.ProofKit
import Derived.OpenShut
import Derived.Handy
import Derived.Outline
import Derived.BigQuiet
import Derived.BigRegion
import Derived.Deep.QuietTactic
import Derived.Deep.RegionHeld3
import Derived.Deep.RegionWith
import Derived.Laws.Externs
import Derived.Lib.Hide
import Derived.Deep.DeepMust
import Derived.Laws.AppendOwn
import Derived.Laws.AppendOwnNone
import Derived.Maps.AppendAt
import Derived.WalkLawsBesides
import Derived.Deep.DeepCutAuto
import Derived.Deep.LoopGhost
import Derived.Deep.Light
import Derived.Laws.IdiomStrings
import Derived.Laws.BitsAll
import Derived.Laws.ShiftsVar
import Derived.Laws.MakeOwn
import Derived.Lib.ConvBytes
import Derived.Lib.LaidTab
import Derived.Lib.SliceRun
namespace Go.Proofs.YtdnfijhclikkfabDoor
open Go.RowKit Go.Lib

/-- A slice of bytes in memory. -/
def BytesAt (w : World) (p : Option Addr) (n : Nat) (bs : List UInt8) : Prop := 0 < n → ∃ b o, p = some ⟨b, o, none⟩ ∧ ∀ i, i < n → w.cell? ⟨b, o + i, none⟩ = some (.int .u8 (bs.getD i 0).toNat)
theorem bcell {W w1 : World} (hb : Below W.heap.size W w1) : (∀ b o, b < W.heap.size → w1.cell? ⟨b, o, none⟩ = W.cell? ⟨b, o, none⟩) ∧ (∀ b o, b < W.heap.size → w1.frozen? ⟨b, o, none⟩ = W.frozen? ⟨b, o, none⟩) :=
  ⟨fun b o h => hb.cell (p := ⟨b, o, none⟩) h, fun b o h => hb.frozen (p := ⟨b, o, none⟩) h⟩
theorem blk_cell {w : World} {g : Nat} {t : TypeId} {cs : Array Value} (h : w.heap[g]? = some (.cells cs t (0, 0))) (i : Nat) : w.cell? ⟨g, i, none⟩ = cs[i]? := cell_of_row w g i cs t (0, 0) h
theorem blk_frozen {w : World} {g : Nat} {t : TypeId} {cs : Array Value} (h : w.heap[g]? = some (.cells cs t (0, 0))) (i : Nat) : w.frozen? ⟨g, i, none⟩ = false := by
  simp [World.frozen?, h]
theorem blk_lt {w : World} {g : Nat} {o : Obj} (h : w.heap[g]? = some o) : g < w.heap.size := by
  rcases Nat.lt_or_ge g w.heap.size with hlt | hge
  · exact hlt
  · rw [Array.getElem?_eq_none hge] at h; cases h
theorem blk_alloc {w : World} {g : Nat} {o : Obj} (h : w.heap[g]? = some o) (o' : Obj) : (w.alloc o').heap[g]? = some o := (Below.heap_alloc w o' g (blk_lt h)).trans h
theorem blk_set {w : World} {g : Nat} {t : TypeId} {cs : Array Value} (h : w.heap[g]? = some (.cells cs t (0, 0))) (i : Nat) (x : Value) :
    (w.setCell ⟨g, i, none⟩ x).heap[g]? = some (.cells (cs.setIfInBounds i x) t (0, 0)) := by
  simp [World.setCell, Array.getElem?_modify, h]
theorem grew_of {w W : World} (h : Below w.heap.size w W) (b : Option Nat) : w.grownBy W b := ⟨h.os, h.tape, h.output, h.size, fun k hk _ => h.block k hk⟩
theorem grew_set {w W : World} {b : Nat} (h : w.grownBy W (some b)) (i : Nat) (x : Value) : w.grownBy (W.setCell ⟨b, i, none⟩ x) (some b) :=
  ⟨h.os, h.tape, h.output, by simpa [World.setCell] using h.size, fun k hk hn => (Below.heap_setCell _ _ _ k (fun e => hn (by rw [e]))).trans (h.block k hk hn)⟩
theorem grew_alloc {w W : World} {b : Option Nat} (h : w.grownBy W b) (o : Obj) : w.grownBy (W.alloc o) b := h.trans (World.grownBy_alloc W o b)
theorem grew_drew {w W : World} {b : Option Nat} (h : w.grownBy W b) : w.grownBy W.drew b := ⟨h.os, h.tape, h.output, h.size, h.block⟩
theorem grew_drewN {w W : World} {b : Option Nat} (h : w.grownBy W b) (n : Nat) : w.grownBy (W.drewN n) b := ⟨h.os, h.tape, h.output, h.size, h.block⟩
theorem below_of {w W W' : World} {b : Nat} (h : Below w.heap.size w W) (hb : w.heap.size ≤ b) (hg : W.grownBy W' (some b)) : Below w.heap.size w W' :=
  h.grown hg h.size (fun k e => by cases e; exact hb)
theorem bytes_on {W W' : World} {A : Option Addr} {n : Nat} {s : List UInt8} {q : Option Nat} (h : BytesAt W A n s) (hg : W.grownBy W' q) (hf : ∀ ad, A = some ad → some ad.block ≠ q) : BytesAt W' A n s := fun h0 => by
  obtain ⟨g, o, rfl, hc⟩ := h h0
  exact ⟨g, o, rfl, fun i hi => hg.cell (hc i hi) (hf ⟨g, o, none⟩ rfl)⟩
def advA (A : Option Addr) (c p : Nat) : Option Addr := if c = p then A else A.map (fun x => x.add p)
theorem run_from (A : Option Addr) (n c p : Nat) (hp : p ≤ n) (w : World) :
    (Instr.slice 22 (.slice A n c) (some (.int .i64 p)) none none).run Tryd.prog w = .ok (.slice (advA A c p) (n - p) (c - p)) w := by
  have h1 := Tryd.underlying22
  have h2 := Tryd.sizeOf5
  have h3 : Tryd.prog.elem 22 = 5 := by kernel_rfl
  rw [run_slice_l (P := Tryd.prog) (t := 22) (a := A) (len := n) (cap := c) (ht := by rw [h3]; exact h1) (kl := .i64) (l := p) (h0 := by omega) (h1 := by omega), h3, h2]
  simp [Result.andThen, sliced, advA]
theorem adv_bytes {W : World} {A : Option Addr} {c p : Nat} {s : List UInt8} (h : BytesAt W A s.length s) (hp : p ≤ s.length) (hc : s.length ≤ c) : BytesAt W (advA A c p) (s.length - p) (s.drop p) := fun h0 => by
  obtain ⟨g, o, rfl, hh⟩ := h (by omega)
  refine ⟨g, o + p, ?_, fun i hi => ?_⟩
  · unfold advA
    rw [if_neg (by omega)]
    simp [Addr.add]
  · have := hh (p + i) (by omega)
    rw [← Nat.add_assoc] at this
    rw [this]
    simp [List.getD_eq_getElem?_getD, List.getElem?_drop]
theorem run_range (A : Option Addr) (n c p m : Nat) (hp : p ≤ m) (hm : m ≤ n) (hn : n ≤ c) (w : World) :
    (Instr.slice 22 (.slice A n c) (some (.int .i64 p)) (some (.int .i64 m)) none).run Tryd.prog w = .ok (.slice (advA A c p) (m - p) (c - p)) w := by
  have h1 := Tryd.underlying22
  have h2 := Tryd.sizeOf5
  have h3 : Tryd.prog.elem 22 = 5 := by kernel_rfl
  rw [run_slice_lh (P := Tryd.prog) (t := 22) (a := A) (len := n) (cap := c) (ht := by rw [h3]; exact h1) (kl := .i64) (l := p) (kh := .i64) (h := m) (h0 := by omega) (h1 := by omega) (h2 := by omega), h3, h2]
  simp [Result.andThen, sliced, advA]
/-- Bytes as cells. -/
def byV (l : List UInt8) : List Value := l.map fun x => .int .u8 (x.toNat : Nat)
theorem byV_len (l : List UInt8) : (byV l).length = l.length := by simp [byV]
/-- A slice of bytes of the call's own. -/
def BRow (w0 : World) (v : Value) (l : List UInt8) (W : World) : Prop := Below w0.heap.size w0 W ∧ W.ownsRow w0.heap.size 5 1 v l.length (byV l)
theorem infoB : (Tryd.prog.info? 5).map (fun i => (i.zero, i.size, i.bytes)) = some (some (.int .u8 0), 1, 1) := by kernel_rfl
theorem BRow.at {w0 W : World} {v : Value} {l : List UInt8} (h : BRow w0 v l W) : ∃ A c, v = .slice A l.length c ∧ BytesAt W A l.length l ∧ (∀ ad, A = some ad → w0.heap.size ≤ ad.block ∧ ad.block < W.heap.size) ∧ l.length ≤ c ∧ c ≤ maxLen := by
  rcases h.2.2 with ⟨rfl, h0⟩ | ⟨g, cap, cur, rfl, hg0, hg, hn, hm, hs, ht⟩
  · rw [h0]
    exact ⟨none, 0, rfl, fun h1 => absurd h1 (by omega), fun ad e => (by cases e), Nat.le_refl _, by unfold maxLen; omega⟩
  · refine ⟨_, cap, rfl, fun h0 => ⟨g, 0, rfl, fun i hi => ?_⟩, fun ad e => (by cases e; exact ⟨hg0, blk_lt hg⟩), hn, hm⟩
    rw [Nat.zero_add, blk_cell hg i, ← Array.getElem?_toList]
    have := congrArg (·[i]?) ht
    simp only [List.getElem?_take, Nat.mul_one, hi, if_true] at this
    rw [this]
    simp [byV, List.getD_eq_getElem?_getD, List.getElem?_eq_getElem hi]
theorem append_by {w0 W : World} {v : Value} {l : List UInt8} (HR : BRow w0 v l W) (qs : List UInt8) (A : Option Addr) (c : Nat) (hq : BytesAt W A qs.length qs) (hnil : A = none → c = 0) (hb : l.length + qs.length ≤ 140737488355328)
    {ops : Array Oper} {rest : List Oper} {o : Oper} {a : Act} {Q : Exit → Act → World → Prop} (hgd : o.guard = none) (s x : Operand)
    (ho : o.op = .call { callee := .builtin .append, args := #[s, x], argTypes := #[22, 22] })
    (hs : a.eval s = v) (hx : a.eval x = .slice A qs.length c)
    (h : ∀ v' w', BRow w0 v' (l ++ qs) w' → wpList Tryd.prog ops Q rest (a.put o.dst v') w') :
    wpList Tryd.prog ops Q (o :: rest) a W := by
  obtain ⟨i0, z, hi, hz0, hz1, hz2⟩ : ∃ i z, Tryd.prog.info? 5 = some i ∧ i.zero = some z ∧ i.size = 1 ∧ (i.bytes = 1 ∧ z.cells.size = 1) := by
    obtain ⟨i, h1, h2, h3, h4⟩ := info_parts infoB
    exact ⟨i, _, h1, h2, h3, h4, rfl⟩
  cases A with
  | none =>
    obtain rfl : qs = [] := by
      cases qs with
      | nil => rfl
      | cons p q => obtain ⟨_, _, e, _⟩ := hq (by simp); cases e
    obtain rfl := hnil rfl
    refine wpList_append_own_none hgd s x 22 ho w0.heap.size 5 i0 1 Tryd.underlying22 hi v l.length (byV l) hs HR.2 hx ?_
    have := h v W (by rw [List.append_nil]; exact HR)
    exact this
  | some ad =>
    refine wpList_append_own_at _ hgd s x 22 ho w0.heap.size 5 i0 z 1 1 Tryd.underlying22 hi hz0 hz1 hz2.1 hz2.2 (by decide) v l.length (byV l) hs HR.2 ad qs.length c (byV qs) hx (by rw [byV_len, Nat.mul_one]) (fun j u hu => ?_) (fun u hu => ?_) (by unfold maxLen; omega) (by omega) HR.1.size ?_
    · have hj : j < qs.length := by
        have := (List.getElem?_eq_some_iff.1 hu).1
        rwa [byV_len] at this
      obtain ⟨g, o', e, hc⟩ := hq (by omega)
      cases e
      rw [show (⟨g, o', none⟩ : Addr).add j = ⟨g, o' + j, none⟩ by simp [Addr.add], hc j hj, ← hu]
      simp [byV, List.getD_eq_getElem?_getD, List.getElem?_eq_getElem hj]
    · obtain ⟨y, _, rfl⟩ := List.mem_map.1 hu
      rfl
    · intro v' w' hown hgrow _ _
      have hgb : Below w0.heap.size w0 w' := by
        exact HR.1.grown hgrow HR.1.size (fun k hk => (HR.2.lt k hk).1)
      refine h v' w' ⟨hgb, ?_⟩
      rw [List.length_append]
      have : byV (l ++ qs) = byV l ++ byV qs := by simp [byV]
      rw [this]
      exact hown
theorem BRow.none (w : World) : BRow w (.slice none 0 0) [] w := ⟨Below.refl _ _, World.ownsRow_nil w _ _ _⟩
theorem BRow.made (w0 W : World) (hb : Below w0.heap.size w0 W) : BRow w0 (.slice (some ⟨W.heap.size, 0, Option.none⟩) 0 0) [] (W.alloc (Obj.cells #[] 5 (0, 0))) :=
  ⟨hb.alloc hb.size _, by
    have := World.ownsRow_made W #[] 0 (e := 5) (size := 1) hb.size (by unfold maxLen; omega) rfl
    exact this⟩
theorem BRow.on {w0 W W' : World} {v : Value} {l : List UInt8} (h : BRow w0 v l W) (hb : Below W.heap.size W W') : BRow w0 v l W' :=
  ⟨h.1.trans (hb.mono h.1.size), h.2.1, by
    rcases h.2.2 with hn | ⟨g, cap, cur, rfl, hg0, hg, r⟩
    · exact .inl hn
    · exact .inr ⟨g, cap, cur, rfl, hg0, (hb.block g (blk_lt hg)).trans hg, r⟩⟩
theorem conv_str {W : World} {A : Option Addr} {c : Nat} {s : List UInt8} (h : BytesAt W A s.length s) :
    (convert 22 9 (.slice A s.length c)).run Tryd.prog W = .ok (.string ⟨s.toArray⟩) W := by
  have hs := Tryd.underlying22
  have he := Tryd.underlying5
  have hd := Tryd.underlying9
  cases A with
  | none =>
    obtain rfl : s = [] := by
      cases s with
      | nil => rfl
      | cons p q => obtain ⟨_, _, e, _⟩ := h (by simp); cases e
    rw [run_convert_bytes_nil W 22 5 hs he _ _ _ hd]
    rfl
  | some ad =>
    refine run_convert_bytes_back (P := Tryd.prog) W 22 9 5 ad c s hs he hd (fun j hj => ?_)
    obtain ⟨g, o, e, hh⟩ := h (by omega)
    cases e
    rw [show (⟨g, o, none⟩ : Addr).add j = ⟨g, o + j, none⟩ by simp [Addr.add], hh j hj]
    simp [List.getD_eq_getElem?_getD, List.getElem?_eq_getElem hj]
theorem bytes_lit {W : World} {t : TypeId} {s : List UInt8} {cs : Array Value} {fr : Nat × Nat} (h : cs.toList = s.map fun x => (.int .u8 (x.toNat : Nat) : Value)) : BytesAt (W.alloc (Obj.cells cs t fr)) (some ⟨W.heap.size, 0, none⟩) s.length s := fun h0 => by
  refine ⟨W.heap.size, 0, rfl, fun i hi => ?_⟩
  have hc : (W.alloc (Obj.cells cs t fr)).cell? ⟨W.heap.size, i, none⟩ = cs[i]? := by unfold World.cell?; rw [heap_alloc_new]; rfl
  rw [Nat.zero_add, hc, ← Array.getElem?_toList, h]
  simp [List.getD_eq_getElem?_getD, List.getElem?_eq_getElem hi]
theorem conv_bytes (W : World) (s : ByteArray) (hs : s.size ≤ 2097152) : ∃ W1 cap, (convert 9 22 (.string s)).run Tryd.prog W = .ok (.slice (some ⟨W.heap.size, 0, none⟩) s.size cap) W1 ∧ Below W.heap.size W W1 ∧ W1.heap.size = W.heap.size + 1 ∧
    BytesAt W1 (some ⟨W.heap.size, 0, none⟩) s.data.toList.length s.data.toList ∧ s.size ≤ cap ∧ cap ≤ 9223372036854775807 := by
  refine ⟨_, _, Lib.run_convert_string_bytes (P := Tryd.prog) W 9 22 5 s Tryd.underlying9 Tryd.underlying22 Tryd.underlying5, ⟨?_, ?_, ?_, ?_, ?_⟩, Lib.bytesWorld_size _ _ _, fun h0 => ?_, Go.grownCap_ge _ _ _ _, ?_⟩
  · rfl
  · rfl
  · rfl
  · rw [Lib.bytesWorld_size]; omega
  · intro k hk; exact Lib.bytesWorld_at_old W _ s k hk
  · refine ⟨W.heap.size, 0, rfl, fun i hi => ?_⟩
    rw [Nat.zero_add]
    exact Lib.bytesWorld_cell W _ s i (hi)
  · have := Go.grownCap_le_maxLen W s.size 0 5 (by unfold maxLen; omega)
    unfold maxLen at this
    omega

/-- The table that the sum goes by is there. -/
def Env (W : World) : Prop := (∀ i, i < 16 → W.cell? ⟨0, i, none⟩ = some (.int .u32 (byFour.getD i 0 : Nat))) ∧ 0 < W.heap.size
theorem Env.on {W W' : World} (h : Env W) (hb : Below W.heap.size W W') : Env W' :=
  ⟨fun i hi => (grew_of hb none).cell (h.1 i hi) (by simp), by have := hb.size; have := h.2; omega⟩
theorem BRow.setd {w0 W : World} {g c : Nat} {l : List UInt8} (h : BRow w0 (.slice (some ⟨g, 0, Option.none⟩) l.length c) l W) (i : Nat) (x : UInt8) :
    BRow w0 (.slice (some ⟨g, 0, Option.none⟩) l.length c) (l.set i x) (W.setCell ⟨g, i, Option.none⟩ (.int .u8 (x.toNat : Nat))) := by
  refine ⟨below_of h.1 (h.2.lt g rfl).1 (grew_set (World.grownBy.refl W (some g)) i _), ?_⟩
  have := (h.2.stored i (.int .u8 (x.toNat : Nat))).1
  rw [List.length_set]
  have e : byV (l.set i x) = (byV l).set i (.int .u8 (x.toNat : Nat)) := by simp [byV, List.map_set]
  rw [e]
  exact this
end Go.Proofs.YtdnfijhclikkfabDoor
