/- Layer sector, the document's disk: faults, what is left, what stands in a sector. -/
import Derived.Test.YtngfffbnofejmaaSDsk
namespace Go.Proofs.Ytngfffbnofejmaa
open Go.RowKit Go.Lib Go.ChangeMaps Go.MapKept

/-- Where an operation of the document's disk leads. -/
def RkTo (W W' : World) (T : Nat → Prop) (st : DS) (g : Nat) : Prop := Fr (NB W T) W W' ∧ ∃ T', Ext W T T' ∧ Rk W' T' st g
theorem RkTo.refl {W : World} {T : Nat → Prop} {st : DS} {g : Nat} (h : Rk W T st g) : RkTo W W T st g := ⟨Fr.refl _ _, T, Ext.refl _ _, h⟩
theorem RkTo.trans {W W1 W2 : World} {T T1 : Nat → Prop} {st : DS} {g : Nat} (h1 : Fr (NB W T) W W1) (he : Ext W T T1) (h2 : RkTo W1 W2 T1 st g) : RkTo W W2 T st g := by
  obtain ⟨f, T2, e2, hd⟩ := h2
  exact ⟨h1.nb he f, T2, he.trans e2 h1.1.size, hd⟩
theorem Rk.nb {W : World} {T : Nat → Prop} {st : DS} {g : Nat} (h : Rk W T st g) : ∀ k, k = g → NB W T k := fun k e => by
  obtain ⟨v, U, h⟩ := h
  subst e
  exact ⟨h.here, no_byte h.blk (by decide)⟩
theorem Rk.ok {W : World} {T : Nat → Prop} {st : DS} {g : Nat} (h : Rk W T st g) : st.ok := by
  obtain ⟨v, U, h⟩ := h
  exact h.ok
theorem Rk.grow {W W' : World} {T T' : Nat → Prop} {st : DS} {g : Nat} (h : Rk W T st g) (hb : Below W.heap.size W W') (hT : ∀ k, T k → T' k) (ht : Ter W' T') : Rk W' T' st g := by
  have h0 := h.ter
  obtain ⟨v, U, h⟩ := h
  exact ⟨v, U, h.on hT ht (fun k hk => hb.block k (h0 k hk))⟩
section
variable {W : World} {T : Nat → Prop} {st : DS} {g : Nat} {v : Value} {U : List WV}
theorem RAt.c0 (h : RAt W T st g v U) : W.cell? ⟨g, 0, none⟩ = some (.int .i64 (st.sz : Nat)) := blk_cell h.blk 0
theorem RAt.c1 (h : RAt W T st g v U) : W.cell? ⟨g, 1, none⟩ = some v := blk_cell h.blk 1
theorem RAt.c2 (h : RAt W T st g v U) : W.cell? ⟨g, 2, none⟩ = some (.int .i64 (st.n : Nat)) := blk_cell h.blk 2
theorem RAt.c3 (h : RAt W T st g v U) : W.cell? ⟨g, 3, none⟩ = some (.int .i64 (st.left : Nat)) := blk_cell h.blk 3
theorem RAt.c4 (h : RAt W T st g v U) : W.cell? ⟨g, 4, none⟩ = some (.bool st.out) := blk_cell h.blk 4
theorem RAt.set (h : RAt W T st g v U) {W' : World} {st' : DS} (hf : Fr (· = g) W W') (hok : st'.ok)
    (hblk : W'.heap[g]? = some (.cells #[.int .i64 (st'.sz : Nat), v, .int .i64 (st'.n : Nat), .int .i64 (st'.left : Nat), .bool st'.out] 31 (0, 0))) (hlog : st'.log = st.log) : RAt W' T st' g v U :=
  { ok := hok, ter := h.ter.on hf.1.size, here := h.here, blk := hblk, row := h.row.fr h.ter hf (fun k e => by subst e; exact no_byte h.blk (by decide)) (fun k hk => h.row.ne hk h.blk (by decide)), log := by rw [h.log, hlog] }
end
set_option maxHeartbeats 1000000 in
theorem rfault_any {W : World} {T : Nat → Prop} {st : DS} {g : Nat} (h : Rk W T st g) (i : Int) :
    Calls Try.prog 38 #[.pointer (some ⟨g, 0, none⟩), .int .i64 i] W fun e w' => e = .returned (.int .i64 (readE st i)) ∧ w' = W := by
  obtain ⟨v, U, h⟩ := h
  have c0 := h.c0
  have c4 := h.c4
  clear h
  cases ho : st.out
  · rw [ho] at c4
    by_cases h0 : i < 0
    · have HP := Lib.hid (show readE st i = 1 by unfold readE; rw [if_neg (by rw [ho]; decide), if_pos (show badAt st i from .inl h0)])
      clear ho
      go_enter Try.func38, Try.ntmps38
      go_wp2_with fail
      go_ret
      exact ⟨by rw [HP.out]; rfl, rfl⟩
    · by_cases h1 : (st.sz : Int) ≤ i
      · have HP := Lib.hid (show readE st i = 1 by unfold readE; rw [if_neg (by rw [ho]; decide), if_pos (show badAt st i from .inr h1)])
        clear ho
        go_enter Try.func38, Try.ntmps38
        go_wp2_with fail
        go_ret
        exact ⟨by rw [HP.out]; rfl, rfl⟩
      · have HP := Lib.hid (show readE st i = 0 by unfold readE; rw [if_neg (by rw [ho]; decide), if_neg (show ¬ badAt st i from fun e => e.elim h0 h1)])
        clear ho
        go_enter Try.func38, Try.ntmps38
        go_wp2_with fail
        go_ret
        exact ⟨by rw [HP.out]; rfl, rfl⟩
  · rw [ho] at c4
    have HP := Lib.hid (show readE st i = 15 by unfold readE; rw [if_pos ho])
    clear ho
    go_enter Try.func38, Try.ntmps38
    go_wp2_with fail
    go_ret
    exact ⟨by rw [HP.out]; rfl, rfl⟩
set_option maxHeartbeats 1000000 in
theorem burns_any {W : World} {T : Nat → Prop} {st : DS} {g : Nat} (h : Rk W T st g) (ho : st.out = false) :
    Calls Try.prog 35 #[.pointer (some ⟨g, 0, none⟩)] W fun e w' => e = .returned (.bool (burn st).out) ∧ Rk w' T (burn st) g ∧ Fr (· = g) W w' := by
  obtain ⟨v, U, h⟩ := h
  have c3 := h.c3
  have c4 := h.c4
  rw [ho] at c4
  have HH := Lib.hid h
  have HO := Lib.hid ho
  have HK := Lib.hid (burn_ok h.ok)
  have hle := h.ok.2.2.1
  by_cases h0 : st.left = 0
  · have hbn : burn st = st := by unfold burn; rw [if_pos h0]
    have HBN := Lib.hid hbn
    clear h ho hbn
    replace c3 : W.cell? ⟨g, 3, none⟩ = some (.int .i64 0) := by rw [c3, h0]; rfl
    go_enter Try.func35, Try.ntmps35
    go_wp2_with fail
    go_ret
    rw [HBN.out]
    exact ⟨by rw [HO.out]; rfl, ⟨v, U, HH.out⟩, Fr.refl _ _⟩
  · have f3 := blk_frozen h.blk 3
    by_cases h2 : st.left = 1
    · have hb : burn st = { st with left := 0, out := true } := by
        unfold burn; rw [if_neg h0]
        simp [h2]
      have HBN := Lib.hid hb
      clear hb
      replace c3 : W.cell? ⟨g, 3, none⟩ = some (.int .i64 1) := by rw [c3, h2]; rfl
      have b1 := blk_set h.blk 3 (.int .i64 0)
      simp only [List.setIfInBounds_toArray, List.set_cons_succ, List.set_cons_zero] at b1
      have d3 : (W.setCell ⟨g, 3, none⟩ (.int .i64 0)).cell? ⟨g, 3, none⟩ = some (.int .i64 0) := blk_cell b1 3
      have d4 := blk_frozen b1 4
      have d5 : (W.setCell ⟨g, 3, none⟩ (.int .i64 0)).cell? ⟨g, 4, none⟩ = some (.bool st.out) := blk_cell b1 4
      have b2 := blk_set b1 4 (.bool true)
      simp only [List.setIfInBounds_toArray, List.set_cons_succ, List.set_cons_zero] at b2
      have d6 : ((W.setCell ⟨g, 3, none⟩ (.int .i64 0)).setCell ⟨g, 4, none⟩ (.bool true)).cell? ⟨g, 4, none⟩ = some (.bool true) := blk_cell b2 4
      have B2 := Lib.hid b2
      clear h ho b1 b2 h0 h2 hle
      go_enter Try.func35, Try.ntmps35
      go_wp2_with fail
      go_ret
      have hf : Fr (· = g) W ((W.setCell ⟨g, 3, none⟩ (.int .i64 0)).setCell ⟨g, 4, none⟩ (.bool true)) := (Fr.set (F := (· = g)) rfl).trans (Fr.set (F := (· = g)) rfl) (fun _ _ h => h)
      refine ⟨by rw [HBN.out]; rfl, ⟨v, U, HH.out.set hf HK.out ?_ (burn_log st).1⟩, hf⟩
      rw [HBN.out]
      exact B2.out
    · have hb : burn st = { st with left := st.left - 1 } := by
        unfold burn; rw [if_neg h0]
        simp [h2]
      have HBN := Lib.hid hb
      clear hb
      have h3 : ¬ (st.left : Int) - 1 = 0 := by omega
      have h4 : (0 : Int) < (st.left : Int) := by omega
      have h5 : Hid (((st.left - 1 : Nat) : Int) = (st.left : Int) - 1) := Lib.hid (by omega)
      have w1 := wrap_in (n := (st.left : Int) - 1) (by omega) (by omega)
      have b1 := blk_set h.blk 3 (.int .i64 ((st.left : Int) - 1))
      simp only [List.setIfInBounds_toArray, List.set_cons_succ, List.set_cons_zero] at b1
      have d3 : (W.setCell ⟨g, 3, none⟩ (.int .i64 ((st.left : Int) - 1))).cell? ⟨g, 3, none⟩ = some (.int .i64 ((st.left : Int) - 1)) := blk_cell b1 3
      have d4 : (W.setCell ⟨g, 3, none⟩ (.int .i64 ((st.left : Int) - 1))).cell? ⟨g, 4, none⟩ = some (.bool false) := by rw [← ho]; exact blk_cell b1 4
      have B1 := Lib.hid b1
      clear h ho b1 h0 h2 hle
      go_enter Try.func35, Try.ntmps35
      go_wp2_with fail
      go_ret
      have hf : Fr (· = g) W (W.setCell ⟨g, 3, none⟩ (.int .i64 ((st.left : Int) - 1))) := Fr.set (F := (· = g)) rfl
      refine ⟨by rw [HBN.out]; show _ = Ending.returned (.bool st.out); rw [HO.out]; rfl, ⟨v, U, HH.out.set hf HK.out ?_ (burn_log st).1⟩, hf⟩
      rw [HBN.out]
      show _ = some (Obj.cells #[_, _, _, .int .i64 ((st.left - 1 : Nat) : Int), _] _ _)
      rw [h5.out]
      exact B1.out
end Go.Proofs.Ytngfffbnofejmaa
