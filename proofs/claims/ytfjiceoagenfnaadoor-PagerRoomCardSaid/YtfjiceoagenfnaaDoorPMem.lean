/- Layer pager, memory: a Pager, its disk, what else stays. -/
import Derived.Test.YtfjiceoagenfnaaDoorPFrm
import Derived.Test.YtfjiceoagenfnaaDoorPPln
set_option maxRecDepth 20000
namespace Go.Proofs.YtfjiceoagenfnaaDoor
open Go.RowKit Go.Lib Go.ChangeMaps Go.MapKept

/-- States as cells. -/
def stV (l : List Nat) : List Value := l.map fun c => .int .u8 (c : Nat)
theorem stV_len (l : List Nat) : (stV l).length = l.length := by simp [stV]
theorem stV_get {l : List Nat} {i : Nat} (h : i < l.length) : (stV l).toArray[i]? = some (.int .u8 (l.getD i 0 : Nat)) := by
  simp [stV, List.getD_eq_getElem?_getD, List.getElem?_eq_getElem h]
theorem stV_set (l : List Nat) (i c : Nat) : (stV l).toArray.setIfInBounds i (.int .u8 (c : Nat)) = (stV (l.set i c)).toArray := by
  simp [stV, List.map_set]
/-- A Pager in memory: its own block, and its states' block. -/
structure PAt (W : World) (n : Nat) (ps : PS) (gd g gs low : Nat) : Prop where
  len : ps.ts.length = n
  n4 : 4 ≤ n ∧ n ≤ 65536
  few : ∀ c ∈ ps.ts, c ≤ 4
  seq : ps.seq ≤ 1000000000
  root : ps.root ≤ 65536
  lows : 2 ≤ low ∧ low ≤ n ∧ ∀ i, 2 ≤ i → i < low → fre (ps.ts.getD i 0) = false
  blk : W.heap[g]? = some (.cells #[.pointer (some ⟨gd, 0, none⟩), .slice (some ⟨gs, 0, none⟩) n n, .int .i64 (roomOf ps.ts : Nat), .int .i64 (low : Nat), .int .i64 (ps.seq : Nat), .int .i64 (ps.root : Nat), .bool false] 72 (0, 0))
  st : W.heap[gs]? = some (.cells (stV ps.ts).toArray 79 (0, 0))
theorem PAt.fr {F : Nat → Prop} {W W' : World} {n : Nat} {ps : PS} {gd g gs low : Nat} (h : PAt W n ps gd g gs low) (hf : Fr F W W') (h1 : ¬ F g) (h2 : ¬ F gs) : PAt W' n ps gd g gs low :=
  { h with blk := (hf.2 g (blk_lt h.blk) h1).trans h.blk, st := (hf.2 gs (blk_lt h.st) h2).trans h.st }
section
variable {W : World} {n : Nat} {ps : PS} {gd g gs low : Nat} (h : PAt W n ps gd g gs low)
include h
theorem PAt.ne : g ≠ gs := fun e => by
  have h1 := h.blk
  rw [e, h.st] at h1
  injection h1 with h1
  injection h1 with _ h1
  exact absurd h1 (by decide)
theorem PAt.d0 : W.cell? ⟨g, 0, none⟩ = some (.pointer (some ⟨gd, 0, none⟩)) := blk_cell h.blk 0
theorem PAt.d1 : W.cell? ⟨g, 1, none⟩ = some (.slice (some ⟨gs, 0, none⟩) n n) := blk_cell h.blk 1
theorem PAt.d2 : W.cell? ⟨g, 2, none⟩ = some (.int .i64 (roomOf ps.ts : Nat)) := blk_cell h.blk 2
theorem PAt.d3 : W.cell? ⟨g, 3, none⟩ = some (.int .i64 (low : Nat)) := blk_cell h.blk 3
theorem PAt.d4 : W.cell? ⟨g, 4, none⟩ = some (.int .i64 (ps.seq : Nat)) := blk_cell h.blk 4
theorem PAt.d5 : W.cell? ⟨g, 5, none⟩ = some (.int .i64 (ps.root : Nat)) := blk_cell h.blk 5
theorem PAt.d6 : W.cell? ⟨g, 6, none⟩ = some (.bool false) := blk_cell h.blk 6
theorem PAt.fz (i : Nat) : W.frozen? ⟨g, i, none⟩ = false := blk_frozen h.blk i
theorem PAt.sz (i : Nat) : W.frozen? ⟨gs, i, none⟩ = false := blk_frozen h.st i
theorem PAt.sc {i : Nat} (hi : i < n) : W.cell? ⟨gs, i, none⟩ = some (.int .u8 (ps.ts.getD i 0 : Nat)) := by
  rw [blk_cell h.st i, stV_get (by rw [h.len]; exact hi)]
theorem PAt.c4 {i : Nat} : ps.ts.getD i 0 ≤ 4 := by
  rw [List.getD_eq_getElem?_getD]
  cases e : ps.ts[i]? with
  | none => exact Nat.zero_le _
  | some c => exact h.few c (List.mem_of_getElem? e)
theorem PAt.nb : ¬ ByteB W g ∧ ¬ ByteB W gs := ⟨no_byte h.blk (by decide), no_byte h.st (by decide)⟩
end
/-- Both: the disk, and the Pager over it. -/
structure Bo (W : World) (T : Nat → Prop) (st : DS) (ps : PS) (gd g gs : Nat) : Prop where
  dk : Dk W T st gd
  pg : ∃ low, PAt W st.sz ps gd g gs low
  tg : ¬ T g
  ts : ¬ T gs
/-- What an operation of a Pager may turn of what was there. -/
def FB (W : World) (T : Nat → Prop) (g gs : Nat) : Nat → Prop := fun k => NB W T k ∨ k = g ∨ k = gs
def BoTo (W W' : World) (T : Nat → Prop) (st : DS) (ps : PS) (gd g gs : Nat) : Prop := Fr (FB W T g gs) W W' ∧ ∃ T', Ext W T T' ∧ Bo W' T' st ps gd g gs
theorem Bo.lt {W : World} {T : Nat → Prop} {st : DS} {ps : PS} {gd g gs : Nat} (h : Bo W T st ps gd g gs) : g < W.heap.size ∧ gs < W.heap.size := by
  obtain ⟨low, hp⟩ := h.pg
  exact ⟨blk_lt hp.blk, blk_lt hp.st⟩
theorem Bo.grow {W W' : World} {T : Nat → Prop} {st : DS} {ps : PS} {gd g gs : Nat} (h : Bo W T st ps gd g gs) (hb : Below W.heap.size W W') : Bo W' T st ps gd g gs := by
  obtain ⟨low, hp⟩ := h.pg
  exact ⟨h.dk.grow hb (fun _ e => e) (h.dk.ter.on hb.size), ⟨low, hp.fr (Fr.of (F := fun _ => False) hb) id id⟩, h.tg, h.ts⟩
theorem BoTo.refl {W : World} {T : Nat → Prop} {st : DS} {ps : PS} {gd g gs : Nat} (h : Bo W T st ps gd g gs) : BoTo W W T st ps gd g gs := ⟨Fr.refl _ _, T, Ext.refl _ _, h⟩
theorem BoTo.below {W W' : World} {T : Nat → Prop} {st : DS} {ps : PS} {gd g gs : Nat} (h : Bo W T st ps gd g gs) (hb : Below W.heap.size W W') : BoTo W W' T st ps gd g gs := ⟨Fr.of hb, T, Ext.refl _ _, h.grow hb⟩
theorem Fr.fb {W W1 W2 : World} {T T1 : Nat → Prop} {g gs : Nat} (h1 : Fr (FB W T g gs) W W1) (he : Ext W T T1) (hn : ¬ ByteB W g ∧ ¬ ByteB W gs) (h2 : Fr (FB W1 T1 g gs) W1 W2) : Fr (FB W T g gs) W W2 :=
  h1.trans h2 (fun k hk e => by
    rcases e with e | e
    · refine .inl ⟨(he.2 k e.1).elim id (fun e => by omega), fun hb => ?_⟩
      have hk2 := h1.2 k hk (fun e2 => by
        rcases e2 with e2 | e2 | e2
        · exact e2.2 hb
        · exact hn.1 (e2 ▸ hb)
        · exact hn.2 (e2 ▸ hb))
      obtain ⟨cs, fr, hh⟩ := hb
      exact e.2 ⟨cs, fr, hk2.trans hh⟩
    · exact .inr e)
theorem Bo.nb {W : World} {T : Nat → Prop} {st : DS} {ps : PS} {gd g gs : Nat} (h : Bo W T st ps gd g gs) : ¬ ByteB W g ∧ ¬ ByteB W gs := by
  obtain ⟨low, hp⟩ := h.pg
  exact hp.nb
theorem BoTo.trans {W W1 W2 : World} {T : Nat → Prop} {st0 st st' : DS} {ps0 ps ps' : PS} {gd g gs : Nat} (h0 : Bo W T st0 ps0 gd g gs) (h1 : BoTo W W1 T st ps gd g gs) (h2 : ∀ T1, Bo W1 T1 st ps gd g gs → BoTo W1 W2 T1 st' ps' gd g gs) : BoTo W W2 T st' ps' gd g gs := by
  obtain ⟨f1, T1, e1, b1⟩ := h1
  obtain ⟨f2, T2, e2, b2⟩ := h2 T1 b1
  exact ⟨f1.fb e1 h0.nb f2, T2, e1.trans e2 f1.1.size, b2⟩
/-- An operation of the disk. -/
theorem Bo.disk {W W' : World} {T : Nat → Prop} {st st' : DS} {ps : PS} {gd g gs : Nat} (h : Bo W T st ps gd g gs) (hd : DkTo W W' T st' gd) (hs : st'.sz = st.sz) : BoTo W W' T st' ps gd g gs := by
  obtain ⟨f, T', e, hd⟩ := hd
  obtain ⟨low, hp⟩ := h.pg
  have hg := h.lt
  refine ⟨f.mono (fun k _ e => .inl e), T', e, hd, ⟨low, ?_⟩, fun e2 => (e.2 _ e2).elim h.tg (fun e3 => by omega), fun e2 => (e.2 _ e2).elim h.ts (fun e3 => by omega)⟩
  rw [hs]
  exact hp.fr f (fun e2 => h.tg e2.1) (fun e2 => h.ts e2.1)
/-- An operation of the table. -/
theorem Bo.tab {W W' : World} {T : Nat → Prop} {st : DS} {ps ps' : PS} {gd g gs : Nat} (h : Bo W T st ps gd g gs) (hf : Fr (fun k => k = g ∨ k = gs) W W') {low' : Nat} (hp : PAt W' st.sz ps' gd g gs low') : BoTo W W' T st ps' gd g gs :=
  ⟨hf.mono (fun k _ e => .inr e), T, Ext.refl _ _, h.dk.fr hf (fun k hk e => by
    rcases e with e | e
    · exact h.tg (e ▸ hk)
    · exact h.ts (e ▸ hk)), ⟨low', hp⟩, h.tg, h.ts⟩
end Go.Proofs.YtfjiceoagenfnaaDoor
