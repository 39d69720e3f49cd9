/- Law SectorSure: what a crash keeps; a row of strings beside two disks. -/
import Derived.Test.YtngfffbnofejmaaSGrw
namespace Go.Proofs.Ytngfffbnofejmaa
open Go.RowKit Go.Lib Go.ChangeMaps Go.MapKept

theorem burn_zero {st : DS} (h : st.left = 0) : burn st = st := by unfold burn; rw [if_pos h]
theorem barr_in {st : DS} (ho : st.out = false) (hl : st.left = 0) : barrE st = 0 ∧ barrS st = { st with n := st.log.length } := by
  have hb := burn_zero hl
  have h0 : ¬ st.out = true := by rw [ho]; decide
  have h2 : ¬ (burn st).out = true := by rw [hb, ho]; decide
  refine ⟨(if_neg h0).trans (if_neg h2), (if_neg h0).trans ((if_neg h2).trans ?_)⟩
  rw [hb]
theorem keepM_all : ∀ (l : List Wr) (k : Nat), keepM 18446744073709551615 k l = l
  | [], _ => rfl
  | w :: l, k => by
    have h : Nat.testBit 18446744073709551615 (k % 64) = true := by
      have h1 := Nat.testBit_two_pow_sub_one 64 (k % 64)
      rw [show (2 : Nat) ^ 64 - 1 = 18446744073709551615 from rfl] at h1
      rw [h1]
      exact decide_eq_true (Nat.mod_lt _ (by decide))
    rw [keepM, if_pos h, keepM_all l (k + 1)]
theorem keepM_none : ∀ (l : List Wr) (k : Nat), keepM 0 k l = []
  | [], _ => rfl
  | w :: l, k => by rw [keepM, if_neg (by rw [Nat.zero_testBit]; decide), keepM_none l (k + 1)]
theorem crash_un (st : DS) (m : Nat) : (crashS st m).un = [] := List.drop_length
theorem crash_len (st : DS) (m : Nat) : (crashS st m).log.length ≤ st.log.length := by
  show (st.sure ++ keepM m 0 st.un).length ≤ _
  rw [List.length_append]
  have h1 := keepM_le m st.un 0
  have h2 : st.sure.length + st.un.length = st.log.length := by
    rw [← List.length_append, show st.sure ++ st.un = st.log from List.take_append_drop ..]
  omega
theorem crash_all (st : DS) : (crashS st 18446744073709551615).log = st.log := by
  show st.sure ++ keepM 18446744073709551615 0 st.un = st.log
  rw [keepM_all]
  exact List.take_append_drop ..
theorem crash_barr (st : DS) (m : Nat) : (crashS { st with n := st.log.length } m).log = st.log := by
  show st.log.take st.log.length ++ keepM m 0 (st.log.drop st.log.length) = st.log
  rw [List.take_length, List.drop_length]
  exact List.append_nil _
/-- Behind a barrier there were writes alone. -/
def Kept (st st' : DS) (k : Nat) : Prop := st'.n = st.log.length ∧ st'.sz = st.sz ∧ ∃ m, st'.log = st.log ++ m ∧ m.length ≤ k
theorem Kept.step {st st' : DS} {k : Nat} (h : Kept st st' k) (a : AV) (ha : a.kind = 2) : Kept st (actS st' a) (k + 1) := by
  obtain ⟨h1, h2, m, h3, h4⟩ := h
  unfold actS
  rw [if_pos ha]
  unfold writeS
  split
  · exact ⟨h1, h2, m, h3, by omega⟩
  · split
    · exact ⟨h1, h2, m, h3, by omega⟩
    · obtain ⟨b1, b2, b3⟩ := burn_log st'
      split
      · exact ⟨b2.trans h1, b3.trans h2, m, b1.trans h3, by omega⟩
      · refine ⟨b2.trans h1, b3.trans h2, m ++ [(a.pos.toNat, dataL a.fill a.odd)], ?_, by rw [List.length_append]; show m.length + 1 ≤ k + 1; omega⟩
        show st'.log ++ _ = _
        rw [h3, List.append_assoc]
theorem Kept.more {st st' : DS} {k : Nat} (h : Kept st st' k) : Kept st st' (k + 1) := by
  obtain ⟨h1, h2, m, h3, h4⟩ := h
  exact ⟨h1, h2, m, h3, by omega⟩
theorem Kept.crash {st st' : DS} {k : Nat} (h : Kept st st' k) : (crashS st' 0).log = st.log := by
  obtain ⟨h1, h2, m, h3, h4⟩ := h
  show st'.log.take st'.n ++ keepM 0 0 st'.un = st.log
  rw [keepM_none, h1, h3, List.append_nil]
  exact List.take_left
theorem Kept.len {st st' : DS} {k : Nat} (h : Kept st st' k) : st'.log.length ≤ st.log.length + k := by
  obtain ⟨h1, h2, m, h3, h4⟩ := h
  rw [h3, List.length_append]; omega
/-- A row of six strings, of which so many are what f says. -/
def Six (W : World) (bb : Nat) (f : Nat → List UInt8) (k : Nat) : Prop := ∃ cur, W.heap[bb]? = some (.cells cur 9 (0, 0)) ∧ cur.size = 6 ∧ ∀ j, j < k → cur[j]? = some (.string ⟨(f j).toArray⟩)
theorem Six.lt {W : World} {bb : Nat} {f : Nat → List UInt8} {k : Nat} (h : Six W bb f k) : bb < W.heap.size := by
  obtain ⟨cur, h, -⟩ := h
  exact blk_lt h
theorem Six.at {W W' : World} {bb : Nat} {f : Nat → List UInt8} {k : Nat} (h : Six W bb f k) (e : W'.heap[bb]? = W.heap[bb]?) : Six W' bb f k := by
  obtain ⟨cur, h, r⟩ := h
  exact ⟨cur, e.trans h, r⟩
theorem Six.set {W : World} {bb : Nat} {f : Nat → List UInt8} {k : Nat} (h : Six W bb f k) (hk : k < 6) : Six (W.setCell ⟨bb, k, none⟩ (.string ⟨(f k).toArray⟩)) bb f (k + 1) := by
  obtain ⟨cur, h, hs, hc⟩ := h
  refine ⟨_, blk_set h k _, by rw [Array.size_setIfInBounds, hs], fun j hj => ?_⟩
  rw [Array.getElem?_setIfInBounds]
  split
  · rename_i e; subst e; rw [if_pos (by omega)]
  · exact hc j (by omega)
theorem Six.cell {W : World} {bb : Nat} {f : Nat → List UInt8} {k j : Nat} (h : Six W bb f k) (hj : j < k) : W.cell? ⟨bb, j, none⟩ = some (.string ⟨(f j).toArray⟩) := by
  obtain ⟨cur, h, hs, hc⟩ := h
  rw [blk_cell h j]
  exact hc j hj
theorem Six.free {W : World} {bb : Nat} {f : Nat → List UInt8} {k j : Nat} (h : Six W bb f k) (hj : j < 6) : (∃ x, W.cell? ⟨bb, j, none⟩ = some x) ∧ W.frozen? ⟨bb, j, none⟩ = false := by
  obtain ⟨cur, h, hs, hc⟩ := h
  refine ⟨?_, blk_frozen h j⟩
  rw [blk_cell h j]
  exact ⟨_, Array.getElem?_eq_getElem (by omega)⟩
/-- Two disks, and beside them the row. -/
structure SI1 (W wr : World) (T R : Nat → Prop) (st su : DS) (g r bb : Nat) (f : Nat → List UInt8) (k : Nat) : Prop where
  b : Below W.heap.size W wr
  hT : ∀ k, T k → W.heap.size ≤ k
  hR : ∀ k, R k → W.heap.size ≤ k
  bt : Both wr T R st su g r
  tb : ¬ T bb
  rb : ¬ R bb
  lo : W.heap.size ≤ bb
  six : Six wr bb f k
def SI (W wr : World) (st su : DS) (g r bb : Nat) (f : Nat → List UInt8) (k : Nat) : Prop := ∃ T R, SI1 W wr T R st su g r bb f k
theorem SI.grow {W wr w2 : World} {st su : DS} {g r bb : Nat} {f : Nat → List UInt8} {k : Nat} (h : SI W wr st su g r bb f k) (hb : Below wr.heap.size wr w2) : SI W w2 st su g r bb f k := by
  obtain ⟨T, R, h⟩ := h
  exact ⟨T, R, h.b.trans (hb.mono h.b.size), h.hT, h.hR, h.bt.grow hb, h.tb, h.rb, h.lo, h.six.at (hb.block bb h.six.lt)⟩
theorem SI1.step {W wr w2 : World} {T R : Nat → Prop} {st su st' su' : DS} {g r bb : Nat} {f : Nat → List UInt8} {k : Nat} (h : SI1 W wr T R st su g r bb f k) (hb : BothTo wr w2 T R st' su' g r) : SI W w2 st' su' g r bb f k := by
  have hk := hb.keep h.six.lt h.tb h.rb
  have hbl := hb.1.below h.b h.b.size (fun k e => e.elim (fun e => h.hT k e.1) (fun e => h.hR k e.1))
  obtain ⟨T', R', e1, e2, hb2⟩ := hb.both
  have hsz := h.b.size
  exact ⟨T', R', hbl, fun k e => (e1.2 k e).elim (h.hT k) (fun e => by omega), fun k e => (e2.2 k e).elim (h.hR k) (fun e => by omega), hb2,
    fun e => (e1.2 bb e).elim h.tb (fun e => by have := h.six.lt; omega), fun e => (e2.2 bb e).elim h.rb (fun e => by have := h.six.lt; omega), h.lo, h.six.at hk⟩
theorem SI.set {W wr : World} {st su : DS} {g r bb : Nat} {f : Nat → List UInt8} {k : Nat} (h : SI W wr st su g r bb f k) (hk : k < 6) : SI W (wr.setCell ⟨bb, k, none⟩ (.string ⟨(f k).toArray⟩)) st su g r bb f (k + 1) := by
  obtain ⟨T, R, h⟩ := h
  have hf : Fr (fun j => j = bb) wr (wr.setCell ⟨bb, k, none⟩ (.string ⟨(f k).toArray⟩)) := Fr.set rfl
  exact ⟨T, R, hf.below h.b h.b.size (fun k e => by have := h.lo; omega), h.hT, h.hR, ⟨h.bt.d.fr hf (fun j h1 h2 => h.tb (h2 ▸ h1)), h.bt.w.fr hf (fun j h1 h2 => h.rb (h2 ▸ h1)), h.bt.ap⟩, h.tb, h.rb, h.lo, h.six.set hk⟩
theorem infoS : (Try.prog.info? 9).map (fun i => (i.zero, i.size, i.bytes)) = some (some (.string ByteArray.empty), 1, 16) := by kernel_rfl
/-- make of six strings. -/
theorem made_six (W : World) (f : Nat → List UInt8) :
    (Instr.makeSlice 41 (.int .i64 6) (.int .i64 6)).run Try.prog W = .ok (.slice (some ⟨W.heap.size, 0, none⟩) 6 6) (W.alloc (.cells (madeCells #[.string ByteArray.empty] 6) 9)) ∧ Below W.heap.size W (W.alloc (.cells (madeCells #[.string ByteArray.empty] 6) 9)) ∧ Six (W.alloc (.cells (madeCells #[.string ByteArray.empty] 6) 9)) W.heap.size f 0 := by
  obtain ⟨i, hi, hz0, hz1, hz2⟩ : ∃ i, Try.prog.info? 9 = some i ∧ i.zero = some (.string ByteArray.empty) ∧ i.size = 1 ∧ i.bytes = 16 := by
    obtain ⟨i, h1, h2, h3, h4⟩ := info_parts infoS
    exact ⟨i, h1, h2, h3, h4⟩
  have hr := run_make (P := Try.prog) W 41 9 i (.string ByteArray.empty) Try.underlying41 hi hz0 .i64 .i64 6 6 (by omega) (by omega) (by rw [hz2]; decide) (by omega)
  rw [hz1] at hr
  refine ⟨by have h := hr; simp at h; exact h, (Below.refl _ W).alloc (Nat.le_refl _) _, _, heap_alloc_new W _, by rw [size_madeCells], fun j hj => absurd hj (Nat.not_lt_zero _)⟩
theorem SI.len {W wr : World} {st su : DS} {g r bb : Nat} {f : Nat → List UInt8} {k : Nat} (h : SI W wr st su g r bb f k) : W.heap.size ≤ wr.heap.size ∧ bb < wr.heap.size := by
  obtain ⟨T, R, h⟩ := h
  exact ⟨h.b.size, h.six.lt⟩
theorem SI.barrier {W wr : World} {st su : DS} {g r bb : Nat} {f : Nat → List UInt8} {k : Nat} (h : SI W wr st su g r bb f k) (hn : st.log.length ≤ 50000) (ho : st.out = false) (hl : st.left = 0) :
    Calls Try.prog 14 #[.pointer (some ⟨g, 0, none⟩)] wr fun e w' => e = .returned (.int .i64 0) ∧ SI W w' { st with n := st.log.length } su g r bb f k := by
  obtain ⟨T, R, h1⟩ := id h
  refine (Barrier_any h1.bt.d (by omega)).mono fun e w' ⟨he, hd⟩ => ?_
  rw [(barr_in ho hl).1] at he
  rw [(barr_in ho hl).2] at hd
  exact ⟨he, h1.step (h1.bt.stepD hd)⟩
theorem SI.rbarrier {W wr : World} {st su : DS} {g r bb : Nat} {f : Nat → List UInt8} {k : Nat} (h : SI W wr st su g r bb f k) (hn : su.log.length ≤ 50000) (ho : su.out = false) (hl : su.left = 0) :
    Calls Try.prog 15 #[.pointer (some ⟨r, 0, none⟩)] wr fun e w' => e = .returned (.int .i64 0) ∧ SI W w' st { su with n := su.log.length } g r bb f k := by
  obtain ⟨T, R, h1⟩ := h
  refine (RBarrier_any h1.bt.w (by omega)).mono fun e w' ⟨he, hd⟩ => ?_
  rw [(barr_in ho hl).1] at he
  rw [(barr_in ho hl).2] at hd
  exact ⟨he, h1.step (h1.bt.stepW hd)⟩
theorem SI.crash {W wr : World} {st su : DS} {g r bb : Nat} {f : Nat → List UInt8} {k : Nat} (h : SI W wr st su g r bb f k) (hn : st.log.length ≤ 50000) (m : Nat) (hm : m < 18446744073709551616) :
    Calls Try.prog 17 #[.pointer (some ⟨g, 0, none⟩), .int .u64 (m : Nat)] wr fun e w' => e = .returned (.int .i64 0) ∧ SI W w' (crashS st m) su g r bb f k := by
  obtain ⟨T, R, h1⟩ := h
  exact (Crash_any h1.bt.d (by omega) m hm).mono fun e w' ⟨he, hd⟩ => ⟨he, h1.step (h1.bt.stepD hd)⟩
theorem SI.act {W wr : World} {st su : DS} {g r bb : Nat} {f : Nat → List UInt8} {k : Nat} (h : SI W wr st su g r bb f k) (hn : st.log.length ≤ 50000) (hm : su.log.length ≤ 50000) (a : AV) (ha : a.ok) :
    Calls Try.prog 11 #[.pointer (some ⟨g, 0, none⟩), .pointer (some ⟨r, 0, none⟩), .agg #[.int .i64 a.kind, .int .i64 a.pos, .int .u8 (a.fill.toNat : Nat), .bool a.odd, .int .u64 (a.mask : Nat)]] wr fun e w' => ∃ b, e = .returned (.bool b) ∧ SI W w' (actS st a) (actS su a) g r bb f k := by
  obtain ⟨T, R, h1⟩ := h
  exact (act_any h1.bt hn hm a ha).mono fun e w' ⟨b, he, _, hd⟩ => ⟨b, he, h1.step hd⟩
theorem SI.read {W wr : World} {st su : DS} {g r bb : Nat} {f : Nat → List UInt8} {k : Nat} (h : SI W wr st su g r bb f k) (ho : st.out = false) {i : Nat} (hi : i < 6) (hs : st.sz = 6) :
    Calls Try.prog 16 #[.pointer (some ⟨g, 0, none⟩), .int .i64 i] wr fun e w' => ∃ v, e = .returned (.tuple #[v, .int .i64 0]) ∧ BRow wr v (nowL st.log i) w' ∧ SI W w' st su g r bb f k := by
  obtain ⟨T, R, h1⟩ := id h
  obtain ⟨e1, e2⟩ := read_in (st := st) (i := i) ho (by omega)
  refine (Read_any h1.bt.d (i : Int) (by unfold In64; omega)).mono fun e w' ⟨v, he, hv⟩ => ⟨v, by rw [he, e1], by rw [← e2]; exact hv, h.grow hv.1⟩
theorem SI.unsure {W wr : World} {st su : DS} {g r bb : Nat} {f : Nat → List UInt8} {k : Nat} (h : SI W wr st su g r bb f k) (hn : st.log.length ≤ 50000) (hu : st.un = []) :
    Calls Try.prog 18 #[.pointer (some ⟨g, 0, none⟩)] wr fun e w' => ∃ A c, e = .returned (.slice A 0 c) ∧ Below W.heap.size W w' := by
  obtain ⟨T, R, h1⟩ := h
  refine (Unsure_any h1.bt.d (by omega)).mono fun e w' ⟨v, U, he, hb, hl, hm⟩ => ?_
  rw [hu] at hm
  obtain rfl : U = [] := List.map_eq_nil_iff.1 hm
  obtain ⟨A, c, rfl⟩ := hl.shape
  exact ⟨A, c, he, h1.b.trans (hb.mono h1.b.size)⟩
end Go.Proofs.Ytngfffbnofejmaa
