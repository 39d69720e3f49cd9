/- Law SectorApart: a disk and what stands beside it. -/
import Derived.Test.YtngfffbnofejmaaSGrw
import Derived.Test.YtngfffbnofejmaaSAlk
namespace Go.Proofs.Ytngfffbnofejmaa
open Go.RowKit Go.Lib Go.ChangeMaps Go.MapKept

theorem write_ok {st : DS} {i : Nat} {s : List UInt8} (h : writeE st (i : Int) s = 0) : (writeS st (i : Int) s).out = false ∧ (writeS st (i : Int) s).sz = st.sz ∧ i < st.sz ∧ nowL (writeS st (i : Int) s).log i = s := by
  unfold writeE at h
  split at h
  · exact absurd h (by decide)
  rename_i h0
  split at h
  · exact absurd h (by decide)
  rename_i h1
  split at h
  · exact absurd h (by decide)
  rename_i h2
  unfold writeS
  rw [if_neg h0, if_neg h1, if_neg h2]
  refine ⟨eq_false_of_ne_true h2, (burn_log st).2.2, ?_, ?_⟩
  · have h3 : ¬ badAt st (i : Int) := fun e => h1 (.inl e)
    unfold badAt at h3
    omega
  · show nowL (st.log ++ [((i : Int).toNat, s)]) i = s
    rw [nowL_push, if_pos (Int.toNat_natCast i)]
theorem writeE_len {st : DS} {i : Int} {s : List UInt8} : (writeS st i s).log.length ≤ st.log.length + 1 := by
  unfold writeS
  split
  · omega
  · split
    · omega
    · split
      · rw [(burn_log st).1]; omega
      · simp
/-- A disk that was made behind W. -/
def Beside (W wr : World) (x m : Nat) : Prop := Below W.heap.size W wr ∧ ∃ T st, (∀ k, T k → W.heap.size ≤ k) ∧ Dk wr T st x ∧ st.log.length ≤ m
theorem Beside.act {W wr : World} {x m : Nat} (h : Beside W wr x m) (hm : m ≤ 50000) (a : AV) (ha : a.ok) :
    Calls Try.prog 11 #[.pointer (some ⟨x, 0, none⟩), .pointer (some ⟨wr.heap.size, 0, none⟩), .agg #[.int .i64 a.kind, .int .i64 a.pos, .int .u8 (a.fill.toNat : Nat), .bool a.odd, .int .u64 (a.mask : Nat)]]
      (wr.alloc (Obj.cells #[.int .i64 (6 : Nat), .slice none 0 0, .int .i64 0, .int .i64 0, .bool false] 31 (0, 0))) fun e w' => ∃ b, e = .returned (.bool b) ∧ Beside W w' x (m + 1) := by
  obtain ⟨hb, T, st, hT, hd, hl⟩ := h
  have hnr := new_ref (W := wr) (n := 6) (by decide)
  have hb2 := Below.alloc (Below.refl wr.heap.size wr) (Nat.le_refl _) (Obj.cells #[.int .i64 (6 : Nat), .slice none 0 0, .int .i64 0, .int .i64 0, .bool false] 31 (0, 0))
  have hd2 := hd.grow hb2 (fun _ h => h) (hd.ter.on hb2.size)
  have hap : Apart T (fun k => k = wr.heap.size) := fun k ht e => by subst e; exact Nat.lt_irrefl _ (hd.ter _ ht)
  generalize hu : wr.alloc (Obj.cells #[.int .i64 (6 : Nat), .slice none 0 0, .int .i64 0, .int .i64 0, .bool false] 31 (0, 0)) = u at *
  refine (act_any ⟨hd2, hnr, hap⟩ (by omega) (by show 0 ≤ 50000; omega) a ha).mono fun e w' ⟨b, he, _, f, T', R', e1, e2, hh⟩ => ⟨b, he, ?_⟩
  have hbu := hb.trans (hb2.mono hb.size)
  refine ⟨f.below hbu hbu.size (fun k e => e.elim (fun e => hT k e.1) (fun e => by have h1 := e.1; have h2 := hb.size; omega)), T', _, fun k e => (e1.2 k e).elim (hT k) (fun e => by have := hbu.size; omega), hh.d, ?_⟩
  have := actS_len st a
  omega
/-- A disk among what the call made. -/
def DI (W wr : World) (st : DS) (g : Nat) : Prop := ∃ T, Below W.heap.size W wr ∧ (∀ k, T k → W.heap.size ≤ k) ∧ Dk wr T st g
theorem DI.grow {W wr w2 : World} {st : DS} {g : Nat} (h : DI W wr st g) (hb : Below wr.heap.size wr w2) : DI W w2 st g := by
  obtain ⟨T, h1, h2, h3⟩ := h
  exact ⟨T, h1.trans (hb.mono h1.size), h2, h3.grow hb (fun _ h => h) (h3.ter.on hb.size)⟩
/-- And a row of bytes beside it. -/
def OI (W wr : World) (st : DS) (g gb n : Nat) : Prop := ∃ T, Below W.heap.size W wr ∧ (∀ k, T k → W.heap.size ≤ k) ∧ Dk wr T st g ∧ ¬ T gb ∧ W.heap.size ≤ gb ∧ ∃ cur, wr.heap[gb]? = some (.cells cur 5 (0, 0)) ∧ n ≤ cur.size
theorem OI.di {W wr : World} {st : DS} {g gb n : Nat} (h : OI W wr st g gb n) : DI W wr st g := by
  obtain ⟨T, h1, h2, h3, -⟩ := h
  exact ⟨T, h1, h2, h3⟩
theorem OI.below {W wr : World} {st : DS} {g gb n : Nat} (h : OI W wr st g gb n) : Below W.heap.size W wr := by
  obtain ⟨T, h1, -⟩ := h
  exact h1
theorem DI.below {W wr : World} {st : DS} {g : Nat} (h : DI W wr st g) : Below W.heap.size W wr := by
  obtain ⟨T, h1, -⟩ := h
  exact h1
theorem OI.free {W wr : World} {st : DS} {g gb n : Nat} (h : OI W wr st g gb n) {j : Nat} (hj : j < n) : (∃ x, wr.cell? ⟨gb, j, none⟩ = some x) ∧ wr.frozen? ⟨gb, j, none⟩ = false := by
  obtain ⟨T, h1, h2, h3, h4, h5, cur, h6, h7⟩ := h
  refine ⟨?_, blk_frozen h6 j⟩
  rw [blk_cell h6 j]
  exact ⟨_, Array.getElem?_eq_getElem (by omega)⟩
theorem OI.set {W wr : World} {st : DS} {g gb n : Nat} (h : OI W wr st g gb n) (j : Nat) (v : Value) : OI W (wr.setCell ⟨gb, j, none⟩ v) st g gb n := by
  obtain ⟨T, h1, h2, h3, h4, h5, cur, h6, h7⟩ := h
  have hf : Fr (fun k => k = gb) wr (wr.setCell ⟨gb, j, none⟩ v) := Fr.set rfl
  exact ⟨T, hf.below h1 h1.size (fun k e => by omega), h2, h3.fr hf (fun k e e2 => h4 (e2 ▸ e)), h4, h5, _, blk_set h6 j v, by rw [Array.size_setIfInBounds]; exact h7⟩
theorem DI.row {W w3 w4 : World} {st : DS} {g gb cap : Nat} {D : List UInt8} (h : DI W w3 st g) (hD : 0 < D.length) (hv : BRow w3 (.slice (some ⟨gb, 0, none⟩) D.length cap) D w4) : OI W w4 st g gb D.length := by
  obtain ⟨T, h1, h2, h3⟩ := h
  obtain ⟨g', c', e, hg, cur, hc, hs⟩ := brow_own hv hD
  have e1 := (Value.slice.inj e).1
  cases e1
  have hb := hv.1
  exact ⟨T, h1.trans (hb.mono h1.size), h2, h3.grow hb (fun _ h => h) (h3.ter.on hb.size), fun e => by have := h3.ter _ e; omega, by have := h1.size; omega, cur, hc, hs⟩
theorem DI.write {W w3 w4 : World} {st : DS} {g gb cap : Nat} {D : List UInt8} (h : DI W w3 st g) (hn : st.log.length ≤ 50000) (hD : 0 < D.length) (i : Int) (hv : BRow w3 (.slice (some ⟨gb, 0, none⟩) D.length cap) D w4) :
    Calls Try.prog 22 #[.pointer (some ⟨g, 0, none⟩), .int .i64 i, .slice (some ⟨gb, 0, none⟩) D.length cap] w4 fun e w' => e = .returned (.int .i64 (writeE st i D)) ∧ OI W w' (writeS st i D) g gb D.length := by
  obtain ⟨T, h1, h2, h3, h4, h5, cur, h6, h7⟩ := h.row hD hv
  obtain ⟨A, c, e, hB, hk⟩ := row_arg hv
  have e1 := (Value.slice.inj e).1
  subst e1
  refine (Write_any h3 (by omega) i hB (fun ad e => by cases e; exact ⟨(hk _ rfl).2, h4⟩)).mono fun e w' ⟨he, f, T', e1, hd⟩ => ⟨he, T', f.below h1 h1.size (fun k e => h2 k e.1), fun k e => (e1.2 k e).elim (h2 k) (fun e => by have := h1.size; omega), hd, fun e => (e1.2 _ e).elim h4 (fun e => by have := blk_lt h6; omega), h5, cur, ?_, h7⟩
  rw [f.2 gb (blk_lt h6) (fun e => h4 e.1)]
  exact h6
theorem DI.read {W wr : World} {st : DS} {g : Nat} (h : DI W wr st g) (ho : st.out = false) {i : Nat} (hi : i < st.sz) (hs : st.sz ≤ 65536) :
    Calls Try.prog 16 #[.pointer (some ⟨g, 0, none⟩), .int .i64 i] wr fun e w' => ∃ v, e = .returned (.tuple #[v, .int .i64 0]) ∧ BRow wr v (nowL st.log i) w' := by
  obtain ⟨T, h1, h2, h3⟩ := h
  obtain ⟨e1, e2⟩ := read_in (st := st) (i := i) ho hi
  exact (Read_any h3 (i : Int) (by unfold In64; omega)).mono fun e w' ⟨v, he, hv⟩ => ⟨v, by rw [he, e1], by rw [← e2]; exact hv⟩
theorem brow_cell {w0 W : World} {g c i : Nat} {l : List UInt8} (h : BRow w0 (.slice (some ⟨g, 0, none⟩) l.length c) l W) (hi : i < l.length) : W.cell? ⟨g, i, none⟩ = some (.int .u8 ((l.getD i 0).toNat : Nat)) := by
  obtain ⟨A, c', e, hB, hk⟩ := row_arg h
  have e1 := (Value.slice.inj e).1
  subst e1
  obtain ⟨b, o, e2, hc⟩ := hB (by omega)
  cases e2
  have := hc i hi
  rw [Nat.zero_add] at this
  exact this
theorem dataL_five (c : UInt8) : (dataL c false).length = 512 ∧ (dataL c false).getD 5 0 = c := ⟨by rw [dataL_len]; rfl, rfl⟩
end Go.Proofs.Ytngfffbnofejmaa
