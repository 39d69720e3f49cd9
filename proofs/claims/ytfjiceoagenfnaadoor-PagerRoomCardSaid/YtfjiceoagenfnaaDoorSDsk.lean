/- Layer sector: reads, writes, barriers, crashes, limits, new disks. -/
import Derived.Test.YtfjiceoagenfnaaDoorSRun
set_option maxRecDepth 20000
namespace Go.Proofs.YtfjiceoagenfnaaDoor
open Go.RowKit Go.Lib Go.ChangeMaps Go.MapKept

theorem dn_t : dn true = 15 := rfl
theorem dn_f : dn false = 0 := rfl
theorem zerV : (List.replicate 512 (Value.int .u8 0)) = byV zer := by rw [zer, byV, List.map_replicate]; rfl
theorem BytesAt.fr {F : Nat → Prop} {W W' : World} {A : Option Addr} {n : Nat} {bs : List UInt8} (h : BytesAt W A n bs) (hlt : ∀ ad, A = some ad → ad.block < W.heap.size) (hf : Fr F W W') (hn : ∀ ad, A = some ad → ¬ F ad.block) : BytesAt W' A n bs := fun h0 => by
  obtain ⟨g, o, rfl, hc⟩ := h h0
  exact ⟨g, o, rfl, fun i hi => (hf.cell (p := ⟨g, o + i, none⟩) (hlt ⟨g, o, none⟩ rfl) (hn ⟨g, o, none⟩ rfl)).trans (hc i hi)⟩
/-- What Read answers: the error, and bytes of the call's own. -/
def RdTo (W w' : World) (st : DS) (i : Int) (e : Ending) : Prop := ∃ v, e = .returned (.tuple #[v, .int .i64 (readE st i)]) ∧ BRow W v (readS st i) w'
/-- make of bytes: noughts of the call's own. -/
theorem made_bytes (W : World) (n : Nat) (hn : n ≤ 140737488355328) :
    (Instr.makeSlice 34 (.int .i64 (n : Nat)) (.int .i64 (n : Nat))).run Tryd.prog W = .ok (.slice (some ⟨W.heap.size, 0, none⟩) n n) (W.alloc (.cells (madeCells #[.int .u8 0] n) 5)) ∧ BRow W (.slice (some ⟨W.heap.size, 0, none⟩) n n) (List.replicate n 0) (W.alloc (.cells (madeCells #[.int .u8 0] n) 5)) := by
  obtain ⟨i, hi, hz0, hz1, hz2⟩ : ∃ i, Tryd.prog.info? 5 = some i ∧ i.zero = some (.int .u8 0) ∧ i.size = 1 ∧ i.bytes = 1 := by
    obtain ⟨i, h1, h2, h3, h4⟩ := info_parts infoB
    exact ⟨i, h1, h2, h3, h4⟩
  have hr := run_make (P := Tryd.prog) W 34 5 i (.int .u8 0) Tryd.underlying34 hi hz0 .i64 .i64 (n : Int) (n : Int) (by omega) (by omega) (by rw [hz2]; omega) (by omega)
  rw [hz1] at hr
  have hl : (madeCells #[.int .u8 0] n).toList = byV (List.replicate n 0) := by
    unfold madeCells byV
    rw [Array.toList_map, Array.toList_range, List.map_replicate]
    refine List.ext_getElem (by simp) fun i h1 h2 => ?_
    rw [List.getElem_map, List.getElem_replicate]
    rw [show (List.range n)[i]'(by simpa using h1) % (#[Value.int .u8 0] : Array Value).size = 0 from Nat.mod_one _]
    rfl
  refine ⟨by have h := hr; simp at h; exact h, (Below.refl _ W).alloc (Nat.le_refl _) _, ?_, .inr ⟨W.heap.size, n, madeCells #[.int .u8 0] n, by rw [List.length_replicate], Nat.le_refl _, heap_alloc_new W _, by rw [List.length_replicate]; exact Nat.le_refl _, by unfold maxLen; omega, by rw [size_madeCells, Nat.mul_one], ?_⟩⟩
  · rw [byV_len, Nat.mul_one]
  · rw [hl, Nat.mul_one]
    exact List.take_of_length_le (by rw [byV_len]; exact Nat.le_refl _)
theorem Clone_sv {W : World} {T : Nat → Prop} {x : SV} (h : SvAt W T x) : Calls Tryd.prog 54 #[x.v] W fun e w' => ∃ v, e = .returned v ∧ BRow W v x.bs w' := by
  obtain ⟨ad, e, hb⟩ := h.cells
  unfold SV.v
  rw [e]
  exact Clone_any hb (by have := h.2.1; omega)
set_option maxHeartbeats 2000000 in
theorem Read_any {W : World} {T : Nat → Prop} {st : DS} {g : Nat} (h : Dk W T st g) (i : Int) (hi : In64 i) :
    Calls Tryd.prog 38 #[.pointer (some ⟨g, 0, none⟩), .int .i64 i] W fun e w' => RdTo W w' st i e := by
  have HF := Lib.hid (fault_any h)
  have HH := Lib.hid (has_any h i)
  obtain ⟨ms, ml, v, S, L, U, h⟩ := h
  by_cases ho : st.out = true
  · have HP := Lib.hid (show readE st i = 15 ∧ readS st i = [] by
      have h1 : readE st i = 15 := by unfold readE; rw [if_pos ho]
      exact ⟨h1, by unfold readS; rw [if_neg (by rw [h1]; decide)]⟩)
    rw [ho, dn_t] at HF
    clear h ho
    go_enter Tryd.func38, Tryd.ntmps38
    go_wp2_with (go_at_call 50; refine HF.out.mono ?_; rintro e' w' ⟨rfl, rfl⟩)
    go_ret2
    exact ⟨.slice none 0 0, by rw [HP.out.1]; rfl, by rw [HP.out.2]; exact BRow.none _⟩
  · rw [Bool.not_eq_true] at ho
    rw [ho, dn_f] at HF
    by_cases hb : badAt st i
    · have HP := Lib.hid (show readE st i = 1 ∧ readS st i = [] by
        have h1 : readE st i = 1 := by unfold readE; rw [if_neg (by rw [ho]; decide), if_pos hb]
        exact ⟨h1, by unfold readS; rw [if_neg (by rw [h1]; decide)]⟩)
      rw [decide_eq_true hb] at HH
      clear h ho hb
      go_enter Tryd.func38, Tryd.ntmps38
      go_wp2_with (first | (go_at_call 50; refine HF.out.mono ?_; rintro e' w' ⟨rfl, rfl⟩) | (go_at_call 51; refine HH.out.mono ?_; rintro e' w' ⟨rfl, rfl⟩))
      go_ret2
      exact ⟨.slice none 0 0, by rw [HP.out.1]; rfl, by rw [HP.out.2]; exact BRow.none _⟩
    · have HP := Lib.hid (show readE st i = 0 ∧ readS st i = nowL st.log i.toNat by
        have h1 : readE st i = 0 := by unfold readE; rw [if_neg (by rw [ho]; decide), if_neg hb]
        exact ⟨h1, by unfold readS; rw [if_pos h1]⟩)
      rw [decide_eq_false hb] at HH
      have c3 := h.c3
      have c4 := h.c4
      have HD := Lib.hid h
      have hin : 0 ≤ i ∧ i < st.sz := by unfold badAt at hb; omega
      obtain ⟨j, rfl⟩ : ∃ j : Nat, i = j := ⟨i.toNat, by omega⟩
      have HI := Lib.hid hi
      have HN := Lib.hid (show nowL st.log j = (lastW st.un j).getD (nowL st.sure j) by
        have : st.log = st.sure ++ st.un := (List.take_append_drop ..).symm
        rw [this, nowL_append])
      rw [Int.toNat_natCast] at HP
      clear h ho hb hin hi
      go_enter Tryd.func38, Tryd.ntmps38
      by_cases hl : (j : Int) ∈ L.map Prod.fst
      · go_upto_region 8 with (first | (go_at_call 50; refine HF.out.mono ?_; rintro e' w' ⟨rfl, hwz⟩; have hwz := hwz.symm; subst hwz) | (go_at_call 51; refine HH.out.mono ?_; rintro e' w' ⟨rfl, hwz⟩; have hwz := hwz.symm; subst hwz) | (refine wp_look_yes (z := noSv) (by rfl) _ _ 84 rfl 34 keyI Tryd.underlying84 (zeroSv _) ml (by rfl) HD.out.ml.map HI.out hl (by rfl) ?_; intro y hy))
        have HY := Lib.hid (HD.out.ml.sv _ hy)
        have HE := Lib.hid (show y.bs = (lastW st.un j).getD (nowL st.sure j) by
          obtain ⟨i2, e1, e2⟩ := HD.out.late.1 _ hy
          obtain rfl : j = i2 := by have : (j : Int) = (i2 : Int) := e1; omega
          rw [e2]; rfl)
        clear hy
        go_wp2_with (go_at_call 54; refine (Clone_sv HY.out).mono ?_; rintro e' w' ⟨vv, rfl, hv⟩)
        go_ret2
        exact ⟨vv, by rw [HP.out.1]; rfl, by rw [HP.out.2, HN.out, ← HE.out]; exact hv⟩
      · have HNL := Lib.hid (HD.out.late.2 j hl)
        by_cases hs : (j : Int) ∈ S.map Prod.fst
        · go_upto_region 11 with (first | (go_at_call 50; refine HF.out.mono ?_; rintro e' w' ⟨rfl, hwz⟩; have hwz := hwz.symm; subst hwz) | (go_at_call 51; refine HH.out.mono ?_; rintro e' w' ⟨rfl, hwz⟩; have hwz := hwz.symm; subst hwz) | (refine wp_look_no (z := noSv) (by rfl) _ _ 84 rfl 34 keyI Tryd.underlying84 (zeroSv _) ml (by rfl) HD.out.ml.map HI.out hl (by rfl) ?_) | (refine wp_look_yes (z := noSv) (by rfl) _ _ 84 rfl 34 keyI Tryd.underlying84 (zeroSv _) ms (by rfl) HD.out.ms.map HI.out hs (by rfl) ?_; intro y hy))
          have HY := Lib.hid (HD.out.ms.sv _ hy)
          have HE := Lib.hid (show y.bs = (lastW st.un j).getD (nowL st.sure j) by
            obtain ⟨i2, e1, e2⟩ := HD.out.sure.1 _ hy
            obtain rfl : j = i2 := by have : (j : Int) = (i2 : Int) := e1; omega
            rw [HNL.out]; unfold nowL; rw [e2]; rfl)
          clear hy
          go_wp2_with (go_at_call 54; refine (Clone_sv HY.out).mono ?_; rintro e' w' ⟨vv, rfl, hv⟩)
          go_ret2
          exact ⟨vv, by rw [HP.out.1]; rfl, by rw [HP.out.2, HN.out, ← HE.out]; exact hv⟩
        · have HNS := Lib.hid (HD.out.sure.2 j hs)
          obtain ⟨hmk, hrow⟩ := made_bytes W 512 (by decide)
          have hmk' : (Instr.makeSlice 34 (.int .i64 512) (.int .i64 512)).run Tryd.prog W = .ok (.slice (some ⟨W.heap.size, 0, none⟩) 512 512) (W.alloc (.cells (madeCells #[.int .u8 0] 512) 5)) := hmk
          have HRW := Lib.hid hrow
          clear hmk hrow
          go_wp2_with (first | (go_at_call 50; refine HF.out.mono ?_; rintro e' w' ⟨rfl, hwz⟩; have hwz := hwz.symm; subst hwz) | (go_at_call 51; refine HH.out.mono ?_; rintro e' w' ⟨rfl, hwz⟩; have hwz := hwz.symm; subst hwz) | (refine wp_look_no (z := noSv) (by rfl) _ _ 84 rfl 34 keyI Tryd.underlying84 (zeroSv _) ml (by rfl) HD.out.ml.map HI.out hl (by rfl) ?_) | (refine wp_look_no (z := noSv) (by rfl) _ _ 84 rfl 34 keyI Tryd.underlying84 (zeroSv _) ms (by rfl) HD.out.ms.map HI.out hs (by rfl) ?_))
          go_ret2
          exact ⟨_, by rw [HP.out.1]; rfl, by rw [HP.out.2, HN.out, HNL.out]; unfold nowL; rw [HNS.out]; exact HRW.out⟩
end Go.Proofs.YtfjiceoagenfnaaDoor
