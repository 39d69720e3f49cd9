/- The reader of JSON in memory: its block, and what it reads. -/
import Derived.Test.YtmjooghfghmngaaDoorProg
import Derived.Test.YtmjooghfghmngaaDoorShelf
import Derived.Test.YtmjooghfghmngaaDoorShelfT
import Derived.Test.YtmjooghfghmngaaDoorShelfU
import Derived.WalkKit
import Derived.ProofKit
import Derived.OpenShut
import Derived.Handy
import Derived.Outline
import Derived.BigQuiet
import Derived.BigRegion
import Derived.Deep.QuietTactic
import Derived.Deep.RegionHeld3
import Derived.Deep.RegionWith
import Derived.Laws.Externs
import Derived.Lib.Hide
import Derived.Deep.DeepMust
import Derived.Laws.AppendOwn
import Derived.Maps.AppendAt
import Derived.WalkLawsBesides
import Derived.Recover
import Derived.Defers
import Derived.Deep.DeepCutAuto
import Derived.Deep.LoopGhost
import Derived.Deep.Light
import Derived.Laws.IdiomStrings
namespace Go.Proofs.YtmjooghfghmngaaDoor
open Go.RowKit

theorem bcell {W w1 : World} (hb : Below W.heap.size W w1) : (∀ b o, b < W.heap.size → w1.cell? ⟨b, o, none⟩ = W.cell? ⟨b, o, none⟩) ∧ (∀ b o, b < W.heap.size → w1.frozen? ⟨b, o, none⟩ = W.frozen? ⟨b, o, none⟩) :=
  ⟨fun b o h => hb.cell (p := ⟨b, o, none⟩) h, fun b o h => hb.frozen (p := ⟨b, o, none⟩) h⟩
theorem blk_cell {w : World} {g : Nat} {t : TypeId} {cs : Array Value} (h : w.heap[g]? = some (.cells cs t (0, 0))) (i : Nat) : w.cell? ⟨g, i, none⟩ = cs[i]? := cell_of_row w g i cs t (0, 0) h
theorem blk_frozen {w : World} {g : Nat} {t : TypeId} {cs : Array Value} (h : w.heap[g]? = some (.cells cs t (0, 0))) (i : Nat) : w.frozen? ⟨g, i, none⟩ = false := by
  simp [World.frozen?, h]
theorem blk_lt {w : World} {g : Nat} {o : Obj} (h : w.heap[g]? = some o) : g < w.heap.size := by
  rcases Nat.lt_or_ge g w.heap.size with hlt | hge
  · exact hlt
  · rw [Array.getElem?_eq_none hge] at h; cases h
theorem blk_alloc {w : World} {g : Nat} {o : Obj} (h : w.heap[g]? = some o) (o' : Obj) : (w.alloc o').heap[g]? = some o := (Below.heap_alloc w o' g (blk_lt h)).trans h
theorem blk_set {w : World} {g : Nat} {t : TypeId} {cs : Array Value} (h : w.heap[g]? = some (.cells cs t (0, 0))) (i : Nat) (x : Value) :
    (w.setCell ⟨g, i, none⟩ x).heap[g]? = some (.cells (cs.setIfInBounds i x) t (0, 0)) := by
  simp [World.setCell, Array.getElem?_modify, h]

/-- What changes is new, or block b. -/
theorem grew_of {w W : World} (h : Below w.heap.size w W) (b : Option Nat) : w.grownBy W b := ⟨h.os, h.tape, h.output, h.size, fun k hk _ => h.block k hk⟩
theorem grew_set {w W : World} {b : Nat} (h : w.grownBy W (some b)) (i : Nat) (x : Value) : w.grownBy (W.setCell ⟨b, i, none⟩ x) (some b) :=
  ⟨h.os, h.tape, h.output, by simpa [World.setCell] using h.size, fun k hk hn => (Below.heap_setCell _ _ _ k (fun e => hn (by rw [e]))).trans (h.block k hk hn)⟩
theorem grew_alloc {w W : World} {b : Option Nat} (h : w.grownBy W b) (o : Obj) : w.grownBy (W.alloc o) b := h.trans (World.grownBy_alloc W o b)
theorem grew_drew {w W : World} {b : Option Nat} (h : w.grownBy W b) : w.grownBy W.drew b := ⟨h.os, h.tape, h.output, h.size, h.block⟩
theorem grew_drewN {w W : World} {b : Option Nat} (h : w.grownBy W b) (n : Nat) : w.grownBy (W.drewN n) b := ⟨h.os, h.tape, h.output, h.size, h.block⟩
/-- Where b is new, nothing of the old has turned. -/
theorem below_of {w W W' : World} {b : Nat} (h : Below w.heap.size w W) (hb : w.heap.size ≤ b) (hg : W.grownBy W' (some b)) : Below w.heap.size w W' :=
  h.grown hg h.size (fun k e => by cases e; exact hb)

/-- A reader in block b: its token, what it reads (a slice of other blocks), and how far it has come. -/
structure Rd (W : World) (b : Nat) (A : Option Addr) (c : Nat) (s : List UInt8) (k a : Int) (t : ByteArray) (p : Nat) : Prop where
  blk : W.heap[b]? = some (.cells #[.int .i64 k, .int .i64 a, .string t, .slice A s.length c, .int .i64 p] 53 (0, 0))
  far : ∀ ad, A = some ad → ad.block ≠ b
  bytes : Lib.BytesAt W A s.length s
  le : s.length ≤ c
  cap : c ≤ 9223372036854775807
  small : s.length ≤ 262144
  pos : p ≤ s.length
  tabs : Lib.Utf8Tabs 0 1 W
  off : 0 < b ∧ 1 < b

theorem tabs_on {W W' : World} {q : Option Nat} (h : Lib.Utf8Tabs 0 1 W) (hg : W.grownBy W' q) (h0 : some 0 ≠ q) (h1 : some 1 ≠ q) : Lib.Utf8Tabs 0 1 W' :=
  ⟨fun c hc => hg.cell (h.1 c hc) h0, fun i hi => ⟨hg.cell (h.2 i hi).1 h1, hg.cell (h.2 i hi).2 h1⟩⟩
section
variable {W W' : World} {b : Nat} {A : Option Addr} {c : Nat} {s : List UInt8} {k a : Int} {t : ByteArray} {p : Nat}
theorem Rd.lt (h : Rd W b A c s k a t p) : b < W.heap.size := blk_lt h.blk
theorem bytes_on {W W' : World} {A : Option Addr} {n : Nat} {s : List UInt8} {q : Option Nat} (h : Lib.BytesAt W A n s) (hg : W.grownBy W' q) (hf : ∀ ad, A = some ad → some ad.block ≠ q) : Lib.BytesAt W' A n s := fun h0 => by
  obtain ⟨g, o, rfl, hc⟩ := h h0
  exact ⟨g, o, rfl, fun i hi => hg.cell (hc i hi) (hf ⟨g, o, none⟩ rfl)⟩
/-- Behind what touches other blocks than its own it is as it was. -/
theorem Rd.on (h : Rd W b A c s k a t p) (hb : Below W.heap.size W W') : Rd W' b A c s k a t p :=
  { h with blk := (hb.block _ h.lt).trans h.blk, bytes := bytes_on h.bytes (grew_of hb none) (fun _ _ => by simp), tabs := tabs_on h.tabs (grew_of hb none) (by simp) (by simp) }
theorem Rd.drew (h : Rd W b A c s k a t p) : Rd W.drew b A c s k a t p := { h with blk := h.blk, bytes := bytes_on h.bytes (grew_drew (World.grownBy.refl W none)) (fun _ _ => by simp), tabs := tabs_on h.tabs (grew_drew (World.grownBy.refl W none)) (by simp) (by simp) }
theorem Rd.drewN (h : Rd W b A c s k a t p) (n : Nat) : Rd (W.drewN n) b A c s k a t p := { h with blk := h.blk, bytes := bytes_on h.bytes (grew_drewN (World.grownBy.refl W none) n) (fun _ _ => by simp), tabs := tabs_on h.tabs (grew_drewN (World.grownBy.refl W none) n) (by simp) (by simp) }
theorem Rd.alloc (h : Rd W b A c s k a t p) (o : Obj) : Rd (W.alloc o) b A c s k a t p := h.on ((Below.refl _ W).alloc (Nat.le_refl _) o)
theorem Rd.other (h : Rd W b A c s k a t p) {g : Nat} (hg : W.grownBy W' (some g)) (hne : g ≠ b) (hA : ∀ ad, A = some ad → ad.block ≠ g) (h0 : 0 ≠ g) (h1 : 1 ≠ g) : Rd W' b A c s k a t p :=
  { h with blk := (hg.block _ h.lt (fun e => hne (by simpa using e.symm))).trans h.blk, bytes := bytes_on h.bytes hg (fun ad e => by have := hA ad e; simpa using this), tabs := tabs_on h.tabs hg (by simpa using h0) (by simpa using h1) }
theorem Rd.bset (h : Rd W b A c s k a t p) (i : Nat) (x : Value) : Lib.BytesAt (W.setCell ⟨b, i, none⟩ x) A s.length s :=
  bytes_on h.bytes (grew_set (World.grownBy.refl W (some b)) i x) (fun ad e => by have := h.far ad e; simpa using this)
theorem Rd.tset (h : Rd W b A c s k a t p) (i : Nat) (x : Value) : Lib.Utf8Tabs 0 1 (W.setCell ⟨b, i, none⟩ x) :=
  tabs_on h.tabs (grew_set (World.grownBy.refl W (some b)) i x) (by have := h.off.1; simp; omega) (by have := h.off.2; simp; omega)
theorem Rd.setK (h : Rd W b A c s k a t p) (k' : Int) : Rd (W.setCell ⟨b, 0, none⟩ (.int .i64 k')) b A c s k' a t p := { h with blk := blk_set h.blk 0 _, bytes := h.bset _ _, tabs := h.tset _ _ }
theorem Rd.setA (h : Rd W b A c s k a t p) (a' : Int) : Rd (W.setCell ⟨b, 1, none⟩ (.int .i64 a')) b A c s k a' t p := { h with blk := blk_set h.blk 1 _, bytes := h.bset _ _, tabs := h.tset _ _ }
theorem Rd.setT (h : Rd W b A c s k a t p) (t' : ByteArray) : Rd (W.setCell ⟨b, 2, none⟩ (.string t')) b A c s k a t' p := { h with blk := blk_set h.blk 2 _, bytes := h.bset _ _, tabs := h.tset _ _ }
theorem Rd.setP (h : Rd W b A c s k a t p) {p' : Nat} (hp : p' ≤ s.length) : Rd (W.setCell ⟨b, 4, none⟩ (.int .i64 p')) b A c s k a t p' := { h with blk := blk_set h.blk 4 _, bytes := h.bset _ _, tabs := h.tset _ _, pos := hp }
theorem Rd.cells (h : Rd W b A c s k a t p) : W.cell? ⟨b, 0, none⟩ = some (.int .i64 k) ∧ W.cell? ⟨b, 1, none⟩ = some (.int .i64 a) ∧ W.cell? ⟨b, 2, none⟩ = some (.string t) ∧ W.cell? ⟨b, 3, none⟩ = some (.slice A s.length c) ∧ W.cell? ⟨b, 4, none⟩ = some (.int .i64 p) :=
  ⟨blk_cell h.blk 0, blk_cell h.blk 1, blk_cell h.blk 2, blk_cell h.blk 3, blk_cell h.blk 4⟩
theorem Rd.free (h : Rd W b A c s k a t p) : W.frozen? ⟨b, 0, none⟩ = false ∧ W.frozen? ⟨b, 1, none⟩ = false ∧ W.frozen? ⟨b, 2, none⟩ = false ∧ W.frozen? ⟨b, 3, none⟩ = false ∧ W.frozen? ⟨b, 4, none⟩ = false :=
  ⟨blk_frozen h.blk 0, blk_frozen h.blk 1, blk_frozen h.blk 2, blk_frozen h.blk 3, blk_frozen h.blk 4⟩
end

/-- The address that s[p:] has. -/
def advA (A : Option Addr) (c p : Nat) : Option Addr := if c = p then A else A.map (fun x => x.add p)
theorem run_from (A : Option Addr) (n c p : Nat) (hp : p ≤ n) (w : World) :
    (Instr.slice 26 (.slice A n c) (some (.int .i64 p)) none none).run Tryd.prog w = .ok (.slice (advA A c p) (n - p) (c - p)) w := by
  have h1 := Tryd.underlying26
  have h2 := Tryd.sizeOf5
  have h3 : Tryd.prog.elem 26 = 5 := by kernel_rfl
  rw [run_slice_l (P := Tryd.prog) (t := 26) (a := A) (len := n) (cap := c) (ht := by rw [h3]; exact h1) (kl := .i64) (l := p) (h0 := by omega) (h1 := by omega), h3, h2]
  simp [Result.andThen, sliced, advA]
theorem adv_bytes {W : World} {A : Option Addr} {c p : Nat} {s : List UInt8} (h : Lib.BytesAt W A s.length s) (hp : p ≤ s.length) (hc : s.length ≤ c) : Lib.BytesAt W (advA A c p) (s.length - p) (s.drop p) := fun h0 => by
  obtain ⟨g, o, rfl, hh⟩ := h (by omega)
  refine ⟨g, o + p, ?_, fun i hi => ?_⟩
  · unfold advA
    rw [if_neg (by omega)]
    simp [Addr.add]
  · have := hh (p + i) (by omega)
    rw [← Nat.add_assoc] at this
    rw [this]
    simp [List.getD_eq_getElem?_getD, List.getElem?_drop]
theorem run_range (A : Option Addr) (n c p m : Nat) (hp : p ≤ m) (hm : m ≤ n) (hn : n ≤ c) (w : World) :
    (Instr.slice 26 (.slice A n c) (some (.int .i64 p)) (some (.int .i64 m)) none).run Tryd.prog w = .ok (.slice (advA A c p) (m - p) (c - p)) w := by
  have h1 := Tryd.underlying26
  have h2 := Tryd.sizeOf5
  have h3 : Tryd.prog.elem 26 = 5 := by kernel_rfl
  rw [run_slice_lh (P := Tryd.prog) (t := 26) (a := A) (len := n) (cap := c) (ht := by rw [h3]; exact h1) (kl := .i64) (l := p) (kh := .i64) (h := m) (h0 := by omega) (h1 := by omega) (h2 := by omega), h3, h2]
  simp [Result.andThen, sliced, advA]
/-- A piece of the bytes as a string. -/
theorem run_piece {W : World} {A : Option Addr} {c p m : Nat} {s : List UInt8} (h : Lib.BytesAt W A s.length s) (hp : p ≤ m) (hm : m ≤ s.length) (hc : s.length ≤ c) :
    (convert 26 9 (.slice (advA A c p) (m - p) (c - p))).run Tryd.prog W = .ok (.string ⟨((s.drop p).take (m - p)).toArray⟩) W := by
  have hs := Tryd.underlying26
  have he := Tryd.underlying5
  have hd := Tryd.underlying9
  cases A with
  | none =>
    have h0 : ¬ 0 < s.length := fun h0 => by obtain ⟨g, o, e, _⟩ := h h0; cases e
    have : advA none c p = none := by unfold advA; split <;> rfl
    rw [this, run_convert_bytes_nil W 26 5 hs he _ _ _ hd]
    have : s = [] := List.eq_nil_of_length_eq_zero (by omega)
    subst this
    simp
    rfl
  | some ad =>
    obtain ⟨ad', had⟩ : ∃ ad', advA (some ad) c p = some ad' := by unfold advA; split <;> exact ⟨_, rfl⟩
    have hlen : ((s.drop p).take (m - p)).length = m - p := by simp; omega
    rw [had]
    have := run_convert_bytes_back (P := Tryd.prog) W 26 9 5 ad' (c - p) ((s.drop p).take (m - p)) hs he hd (fun j hj => by
      rw [hlen] at hj
      obtain ⟨g, o, e, hh⟩ := adv_bytes (c := c) h (show p ≤ s.length by omega) hc (by omega)
      rw [had] at e
      cases e
      rw [show (⟨g, o, none⟩ : Addr).add j = ⟨g, o + j, none⟩ by simp [Addr.add], hh j (by omega)]
      simp [List.getD_eq_getElem?_getD, List.getElem?_drop, List.getElem?_eq_getElem (show p + j < s.length by omega)])
    rwa [hlen] at this

/-- The longest run of bytes of a set, from a place on. -/
def runL (s : List UInt8) (cs : List UInt8) (p : Nat) : List UInt8 := (s.drop p).takeWhile (cs.contains ·)
theorem runL_len (s cs : List UInt8) {p : Nat} (hp : p ≤ s.length) : p + (runL s cs p).length ≤ s.length := by
  have := (List.takeWhile_prefix (cs.contains ·) (l := s.drop p)).length_le
  unfold runL
  simp only [List.length_drop] at this
  omega
theorem runL_take (s cs : List UInt8) (p : Nat) : (s.drop p).take (runL s cs p).length = runL s cs p :=
  (List.prefix_iff_eq_take.1 (List.takeWhile_prefix _)).symm
end Go.Proofs.YtmjooghfghmngaaDoor
