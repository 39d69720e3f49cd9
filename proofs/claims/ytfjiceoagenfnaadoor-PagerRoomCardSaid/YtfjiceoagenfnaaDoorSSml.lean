/- Layer sector: the power, faults, how many sectors, limits. -/
import Derived.Test.YtfjiceoagenfnaaDoorSMem
set_option maxRecDepth 20000
namespace Go.Proofs.YtfjiceoagenfnaaDoor
open Go.RowKit Go.Lib Go.ChangeMaps Go.MapKept
section
variable {W : World} {T : Nat → Prop} {st : DS} {g ms ml : Nat} {v : Value} {S L : List (Int × SV)} {U : List WV}
theorem DAt.c0 (h : DAt W T st g ms ml v S L U) : W.cell? ⟨g, 0, none⟩ = some (.bool st.out) := blk_cell h.blk 0
theorem DAt.c1 (h : DAt W T st g ms ml v S L U) : W.cell? ⟨g, 1, none⟩ = some (.int .i64 (st.left : Nat)) := blk_cell h.blk 1
theorem DAt.c2 (h : DAt W T st g ms ml v S L U) : W.cell? ⟨g, 2, none⟩ = some (.int .i64 (st.sz : Nat)) := blk_cell h.blk 2
theorem DAt.c3 (h : DAt W T st g ms ml v S L U) : W.cell? ⟨g, 3, none⟩ = some (.map (some ms)) := blk_cell h.blk 3
theorem DAt.c4 (h : DAt W T st g ms ml v S L U) : W.cell? ⟨g, 4, none⟩ = some (.map (some ml)) := blk_cell h.blk 4
theorem DAt.c5 (h : DAt W T st g ms ml v S L U) : W.cell? ⟨g, 5, none⟩ = some v := blk_cell h.blk 5
end
set_option maxHeartbeats 1000000 in
theorem fault_any {W : World} {T : Nat → Prop} {st : DS} {g : Nat} (h : Dk W T st g) :
    Calls Tryd.prog 50 #[.pointer (some ⟨g, 0, none⟩)] W fun e w' => e = .returned (.int .i64 (dn st.out)) ∧ w' = W := by
  obtain ⟨ms, ml, v, S, L, U, h⟩ := h
  have c0 := h.c0
  clear h
  cases ho : st.out <;> rw [ho] at c0
  · go_enter Tryd.func50, Tryd.ntmps50
    go_wp2_with fail
    go_ret
    exact ⟨rfl, rfl⟩
  · go_enter Tryd.func50, Tryd.ntmps50
    go_wp2_with fail
    go_ret
    exact ⟨rfl, rfl⟩
theorem fault_nil (W : World) :
    Calls Tryd.prog 50 #[.pointer none] W fun e w' => e = .returned (.int .i64 1) ∧ w' = W := by
  go_enter Tryd.func50, Tryd.ntmps50
  go_wp2_with fail
  go_ret
  exact ⟨rfl, rfl⟩
set_option maxHeartbeats 1000000 in
theorem has_any {W : World} {T : Nat → Prop} {st : DS} {g : Nat} (h : Dk W T st g) (i : Int) :
    Calls Tryd.prog 51 #[.pointer (some ⟨g, 0, none⟩), .int .i64 i] W fun e w' => e = .returned (.bool (!decide (badAt st i))) ∧ w' = W := by
  obtain ⟨ms, ml, v, S, L, U, h⟩ := h
  have c2 := h.c2
  clear h
  go_enter Tryd.func51, Tryd.ntmps51
  by_cases h0 : 0 ≤ i
  · by_cases h1 : i < (st.sz : Int)
    · have hb : decide (badAt st i) = false := by rw [decide_eq_false_iff_not]; unfold badAt; omega
      have HB := Lib.hid hb
      clear hb
      go_wp2_with fail
      go_ret
      exact ⟨by rw [HB.out]; rfl, rfl⟩
    · have hb : decide (badAt st i) = true := by rw [decide_eq_true_eq]; unfold badAt; omega
      have HB := Lib.hid hb
      clear hb
      go_wp2_with fail
      go_ret
      exact ⟨by rw [HB.out]; rfl, rfl⟩
  · have hb : decide (badAt st i) = true := by rw [decide_eq_true_eq]; unfold badAt; omega
    have HB := Lib.hid hb
    clear hb
    go_wp2_with fail
    go_ret
    exact ⟨by rw [HB.out]; rfl, rfl⟩
theorem Len_any {W : World} {T : Nat → Prop} {st : DS} {g : Nat} (h : Dk W T st g) :
    Calls Tryd.prog 24 #[.pointer (some ⟨g, 0, none⟩)] W fun e w' => e = .returned (.int .i64 (st.sz : Nat)) ∧ w' = W := by
  obtain ⟨ms, ml, v, S, L, U, h⟩ := h
  have c2 := h.c2
  clear h
  go_enter Tryd.func24, Tryd.ntmps24
  go_wp2_with fail
  go_ret
  exact ⟨rfl, rfl⟩
theorem Down_any {W : World} {T : Nat → Prop} {st : DS} {g : Nat} (h : Dk W T st g) :
    Calls Tryd.prog 45 #[.pointer (some ⟨g, 0, none⟩)] W fun e w' => e = .returned (.bool st.out) ∧ w' = W := by
  obtain ⟨ms, ml, v, S, L, U, h⟩ := h
  have c0 := h.c0
  clear h
  go_enter Tryd.func45, Tryd.ntmps45
  go_wp2_with fail
  go_ret
  exact ⟨rfl, rfl⟩
/-- The cells of the disk's block written anew. -/
theorem DAt.set {W : World} {T : Nat → Prop} {st st' : DS} {g ms ml : Nat} {v : Value} {S L : List (Int × SV)} {U : List WV} (h : DAt W T st g ms ml v S L U) {W' : World}
    (hf : Fr (· = g) W W') (hz : W'.heap.size = W.heap.size) (hok : st'.ok) (hblk : W'.heap[g]? = some (.cells #[.bool st'.out, .int .i64 (st'.left : Nat), .int .i64 (st'.sz : Nat), .map (some ms), .map (some ml), v] 87 (0, 0)))
    (hlog : st'.log = st.log) (hn : st'.n = st.n) : DAt W' T st' g ms ml v S L U := by
  have hb : ∀ k, k = g → ¬ ByteB W k := fun k e => by subst e; exact no_byte h.blk (by decide)
  exact { ok := hok, ter := h.ter.on (by omega), here := h.here, blk := hblk, ne := h.ne, ms := h.ms.fr h.ter hf hb (map_cells h.ms.map h.blk), ml := h.ml.fr h.ter hf hb (map_cells h.ml.map h.blk),
          row := h.row.fr h.ter hf hb (fun k hk => h.row.ne hk h.blk (by decide)), un := by rw [h.un]; unfold DS.un; rw [hlog, hn], sure := by unfold DS.sure; rw [hlog, hn]; exact h.sure, late := by unfold DS.un; rw [hlog, hn]; exact h.late }
theorem burn_ok {st : DS} (h : st.ok) : (burn st).ok := by
  unfold burn; split
  · exact h
  · obtain ⟨h1, h2, h3, h4⟩ := h
    exact ⟨h1, h2, by show ((st.left - 1 : Nat) : Int) ≤ _; omega, h4⟩
theorem burn_log (st : DS) : (burn st).log = st.log ∧ (burn st).n = st.n ∧ (burn st).sz = st.sz := by unfold burn; split <;> exact ⟨rfl, rfl, rfl⟩
set_option maxHeartbeats 1000000 in
theorem spend_any {W : World} {T : Nat → Prop} {st : DS} {g : Nat} (h : Dk W T st g) (ho : st.out = false) :
    Calls Tryd.prog 52 #[.pointer (some ⟨g, 0, none⟩)] W fun e w' => e = .returned (.int .i64 (dn (burn st).out)) ∧ Dk w' T (burn st) g ∧ Fr (· = g) W w' ∧ w'.heap.size = W.heap.size := by
  obtain ⟨ms, ml, v, S, L, U, h⟩ := h
  have c1 := h.c1
  have hle := h.ok.2.2.1
  by_cases h0 : st.left = 0
  · have hbn : burn st = st := by unfold burn; rw [if_pos h0]
    have HH := Lib.hid h
    have HO := Lib.hid ho
    have HBN := Lib.hid hbn
    clear h ho hbn
    replace c1 : W.cell? ⟨g, 1, none⟩ = some (.int .i64 0) := by rw [c1, h0]; rfl
    go_enter Tryd.func52, Tryd.ntmps52
    go_wp2_with fail
    go_ret
    rw [HBN.out]
    exact ⟨by rw [HO.out]; rfl, ⟨ms, ml, v, S, L, U, HH.out⟩, Fr.refl _ _, rfl⟩
  · have f1 := blk_frozen h.blk 1
    have f0 := blk_frozen h.blk 0
    have hok := burn_ok h.ok
    have HH := Lib.hid h
    have HO := Lib.hid ho
    have HK := Lib.hid hok
    clear hok
    by_cases h2 : st.left = 1
    · have hb : burn st = { st with left := 0, out := true } := by
        unfold burn; rw [if_neg h0]
        simp [h2]
      have HBN := Lib.hid hb
      clear hb
      replace c1 : W.cell? ⟨g, 1, none⟩ = some (.int .i64 1) := by rw [c1, h2]; rfl
      have b1 := blk_set h.blk 1 (.int .i64 0)
      simp only [List.setIfInBounds_toArray, List.set_cons_succ, List.set_cons_zero] at b1
      have d1 : (W.setCell ⟨g, 1, none⟩ (.int .i64 0)).cell? ⟨g, 1, none⟩ = some (.int .i64 0) := blk_cell b1 1
      have d0 := blk_frozen b1 0
      have d2 := blk_cell b1 0
      have b2 := blk_set b1 0 (.bool true)
      simp only [List.setIfInBounds_toArray, List.set_cons_zero] at b2
      have B2 := Lib.hid b2
      clear h ho b1 b2 h0 h2 hle
      go_enter Tryd.func52, Tryd.ntmps52
      go_wp2_with fail
      go_ret
      have hf : Fr (· = g) W ((W.setCell ⟨g, 1, none⟩ (.int .i64 0)).setCell ⟨g, 0, none⟩ (.bool true)) := (Fr.set (F := (· = g)) rfl).trans (Fr.set (F := (· = g)) rfl) (fun _ _ h => h)
      have hz : ((W.setCell ⟨g, 1, none⟩ (.int .i64 0)).setCell ⟨g, 0, none⟩ (.bool true)).heap.size = W.heap.size := by simp [World.setCell]
      refine ⟨by rw [HBN.out]; rfl, ⟨ms, ml, v, S, L, U, HH.out.set hf hz HK.out ?_ (burn_log st).1 (burn_log st).2.1⟩, hf, hz⟩
      rw [HBN.out]
      exact B2.out
    · have hb : burn st = { st with left := st.left - 1 } := by
        unfold burn; rw [if_neg h0]
        simp [h2]
      have HBN := Lib.hid hb
      clear hb
      have h3 : (0 : Int) < (st.left : Int) - 1 := by omega
      have h4 : (0 : Int) < (st.left : Int) := by omega
      have h5 : Hid (((st.left - 1 : Nat) : Int) = (st.left : Int) - 1) := Lib.hid (by omega)
      have w1 := wrap_in (n := (st.left : Int) - 1) (by omega) (by omega)
      have b1 := blk_set h.blk 1 (.int .i64 ((st.left : Int) - 1))
      simp only [List.setIfInBounds_toArray, List.set_cons_succ, List.set_cons_zero] at b1
      have d1 : (W.setCell ⟨g, 1, none⟩ (.int .i64 ((st.left : Int) - 1))).cell? ⟨g, 1, none⟩ = some (.int .i64 ((st.left : Int) - 1)) := blk_cell b1 1
      have B1 := Lib.hid b1
      clear h ho b1 h0 h2 hle
      go_enter Tryd.func52, Tryd.ntmps52
      go_wp2_with fail
      go_ret
      have hf : Fr (· = g) W (W.setCell ⟨g, 1, none⟩ (.int .i64 ((st.left : Int) - 1))) := Fr.set (F := (· = g)) rfl
      have hz : (W.setCell ⟨g, 1, none⟩ (.int .i64 ((st.left : Int) - 1))).heap.size = W.heap.size := by simp [World.setCell]
      refine ⟨by rw [HBN.out]; show _ = Ending.returned (.int .i64 (dn st.out)); rw [HO.out]; rfl, ⟨ms, ml, v, S, L, U, HH.out.set hf hz HK.out ?_ (burn_log st).1 (burn_log st).2.1⟩, hf, hz⟩
      rw [HBN.out]
      show _ = some (Obj.cells #[_, .int .i64 ((st.left - 1 : Nat) : Int), _, _, _, _] _ _)
      rw [h5.out]
      exact B1.out
end Go.Proofs.YtfjiceoagenfnaaDoor
