/- Layer sector: barriers, crashes. -/
import Derived.Test.YtfjiceoagenfnaaDoorSDs3
import Derived.Laws.Bits64b
set_option maxRecDepth 20000
namespace Go.Proofs.YtfjiceoagenfnaaDoor
open Go.RowKit Go.Lib Go.ChangeMaps Go.MapKept

theorem barrier_clos (W : World) (k : Nat) : Calls Tryd.prog 63 #[.int .i64 (k : Nat)] W fun e w' => e = .returned (.bool ((fun _ => true) k)) ∧ w' = W := by
  go_enter Tryd.func63, Tryd.ntmps63
  go_wp2_with fail
  go_ret
  exact ⟨rfl, rfl⟩
theorem setS_all (st : DS) : setS st (fun _ => true) = { st with n := st.log.length } := by
  unfold setS
  rw [keepF_all, show st.sure ++ st.un = st.log from List.take_append_drop ..]
set_option maxHeartbeats 2000000 in
theorem Barrier_any {W : World} {T : Nat → Prop} {st : DS} {g : Nat} (h : Dk W T st g) (hn : st.log.length ≤ 100000) :
    Calls Tryd.prog 55 #[.pointer (some ⟨g, 0, none⟩)] W fun e w' => e = .returned (.int .i64 (barrE st)) ∧ DkTo W w' T (barrS st) g := by
  have HF := Lib.hid (fault_any h)
  have HD := Lib.hid h
  by_cases ho : st.out = true
  · have HP := Lib.hid (show barrE st = 15 ∧ barrS st = st from ⟨if_pos ho, if_pos ho⟩)
    rw [ho, dn_t] at HF
    clear h ho
    go_enter Tryd.func55, Tryd.ntmps55
    go_wp2_with (go_at_call 50; refine HF.out.mono ?_; rintro e' w' ⟨rfl, hwz⟩; have hwz := hwz.symm; subst hwz)
    go_ret
    exact ⟨by rw [HP.out.1]; rfl, by rw [HP.out.2]; exact DkTo.refl HD.out⟩
  · rw [Bool.not_eq_true] at ho
    rw [ho, dn_f] at HF
    have HS := Lib.hid (spend_any h ho)
    have HP0 := Lib.hid (show barrE st = dn (burn st).out ∧ barrS st = if (burn st).out = true then burn st else { burn st with n := st.log.length } from ⟨by
      unfold barrE dn
      rw [if_neg (by rw [ho]; decide)], by
      unfold barrS
      rw [if_neg (by rw [ho]; decide)]⟩)
    have HN := Lib.hid hn
    clear h ho hn
    cases hbo : (burn st).out
    · rw [hbo, dn_f] at HS
      rw [hbo, dn_f, if_neg (by decide)] at HP0
      go_enter Tryd.func55, Tryd.ntmps55
      go_wp2_with (first | (go_at_call 50; refine HF.out.mono ?_; rintro e' w' ⟨rfl, hwz⟩; have hwz := hwz.symm; subst hwz) | (go_at_call 52; refine HS.out.mono ?_; rintro e' w1 ⟨rfl, hd1, hf1, hs1⟩; have HST := Lib.hid (settle_barrier hd1 (burn_room HN.out) (fun _ => true) (fun W' k _ _ => barrier_clos W' k)); have HD1 := Lib.hid hd1; have HF1 := Lib.hid hf1; clear hd1 hf1 hs1) | (go_at_call 41; refine HST.out.mono ?_; rintro e' w2 ⟨rfl, hd2⟩; have HD2 := Lib.hid hd2; clear hd2))
      go_ret
      refine ⟨by rw [HP0.out.1]; rfl, ?_⟩
      rw [HP0.out.2, ← (burn_log st).1]
      have h2 := HD2.out
      rw [setS_all] at h2
      exact DkTo.trans (HF1.out.mono (fun k _ e => HD.out.nb k e)) (Ext.refl _ _) h2
    · rw [hbo, dn_t] at HS
      rw [hbo, dn_t, if_pos rfl] at HP0
      clear hbo
      go_enter Tryd.func55, Tryd.ntmps55
      go_wp2_with (first | (go_at_call 50; refine HF.out.mono ?_; rintro e' w' ⟨rfl, hwz⟩; have hwz := hwz.symm; subst hwz) | (go_at_call 52; refine HS.out.mono ?_; rintro e' w1 ⟨rfl, hd1, hf1, hs1⟩; have HD1 := Lib.hid hd1; have HF1 := Lib.hid hf1; have HS1 := Lib.hid hs1; clear hd1 hf1 hs1))
      go_ret
      exact ⟨by rw [HP0.out.1]; rfl, by rw [HP0.out.2]; exact HD.out.spent HF1.out HD1.out⟩
theorem bit_is {m i : Nat} (hm : m < 18446744073709551616) : (bits BinOp.and IntKind.u64 ((m : Int) / 2 ^ i) 1 == 1) = m.testBit i := by
  have h1 : ((m : Int) / 2 ^ i) = ((m / 2 ^ i : Nat) : Int) := by rw [Int.natCast_ediv, Int.natCast_pow]; rfl
  have h2 : m / 2 ^ i < 18446744073709551616 := Nat.lt_of_le_of_lt (Nat.div_le_self ..) hm
  rw [h1, show (1 : Int) = ((1 : Nat) : Int) from rfl, bits_and_u64_nat _ 1 h2 (by decide), Nat.and_one_is_mod, Nat.testBit_eq_decide_div_mod_eq]
  rcases Nat.mod_two_eq_zero_or_one (m / 2 ^ i) with h | h <;> rw [h] <;> rfl
set_option maxHeartbeats 1000000 in
theorem crash_clos {W : World} {bx m : Nat} (h : W.cell? ⟨bx, 0, none⟩ = some (.int .u64 (m : Nat))) (hm : m < 18446744073709551616) (k : Nat) (hk : k ≤ 100000) :
    Calls Tryd.prog 42 #[.int .i64 (k : Nat), .pointer (some ⟨bx, 0, none⟩)] W fun e w' => e = .returned (.bool (m.testBit (k % 64))) ∧ w' = W := by
  have HM := Lib.hid hm
  clear hm
  have h1 : (k : Int).tmod 64 = ((k % 64 : Nat) : Int) := by rw [Int.tmod_eq_emod_of_nonneg (by omega)]; omega
  have h2 : IntKind.i64.wrap ((k % 64 : Nat) : Int) = ((k % 64 : Nat) : Int) := wrap_in (by omega) (by omega)
  go_enter Tryd.func42, Tryd.ntmps42
  go_wp2_with fail
  go_ret
  refine ⟨?_, rfl⟩
  show Ending.returned (.bool (bits BinOp.and IntKind.u64 ((m : Int) / 2 ^ (k % 64)) 1 == 1)) = _
  rw [bit_is HM.out]
set_option maxHeartbeats 1000000 in
theorem Crash_any {W : World} {T : Nat → Prop} {st : DS} {g : Nat} (h : Dk W T st g) (hn : st.log.length ≤ 100000) (m : Nat) (hm : m < 18446744073709551616) :
    Calls Tryd.prog 22 #[.pointer (some ⟨g, 0, none⟩), .int .u64 (m : Nat)] W fun e w' => e = .returned (.int .i64 0) ∧ DkTo W w' T (crashS st m) g := by
  have hb : Below W.heap.size W (W.alloc (Obj.cells #[.int .u64 (m : Nat)] 35 (0, 0))) := (Below.refl _ W).alloc (Nat.le_refl _) _
  have hnew := heap_alloc_new W (Obj.cells #[.int .u64 (m : Nat)] 35 (0, 0))
  have hd1 := h.grow hb (fun _ h => h) (h.ter.on hb.size)
  have hST := settle_crash hd1 hn W.heap.size (fun k => m.testBit (k % 64)) (fun W' k hf hk => crash_clos ((hf.cell (p := ⟨W.heap.size, 0, none⟩) (blk_lt hnew) (fun e => Nat.lt_irrefl _ (h.ter _ e))).trans (blk_cell hnew 0)) hm k hk)
  have HST := Lib.hid hST
  have HB := Lib.hid hb
  have HD1 := Lib.hid hd1
  clear hST hb hnew hd1 hm
  go_enter Tryd.func22, Tryd.ntmps22
  go_upto_region 4 with (go_at_call 41; refine HST.out.mono ?_; rintro e' w2 ⟨rfl, hd2⟩; have HD2 := Lib.hid hd2; clear hd2)
  obtain ⟨hf2, T2, he2, ms, ml, v, S, L, U, h2⟩ := HD2.out
  have f0 := blk_frozen h2.blk 0
  have f1 := blk_frozen h2.blk 1
  have k0 := h2.c0
  have k1 := h2.c1
  have b1 := blk_set h2.blk 0 (.bool false)
  simp only [List.setIfInBounds_toArray, List.set_cons_zero] at b1
  have b2 := blk_set b1 1 (.int .i64 0)
  simp only [List.setIfInBounds_toArray, List.set_cons_zero, List.set_cons_succ] at b2
  have d1 : (w2.setCell ⟨g, 0, none⟩ (.bool false)).cell? ⟨g, 1, none⟩ = _ := blk_cell b1 1
  have e1 := blk_frozen b1 1
  have B2 := Lib.hid b2
  have H2 := Lib.hid h2
  have HF2 := Lib.hid hf2
  have HE2 := Lib.hid he2
  clear b1 b2 h2 hf2 he2
  go_wp2_with fail
  go_ret
  refine ⟨rfl, ?_⟩
  have e1 : (crashS st m).log = (setS st (fun k => m.testBit (k % 64))).log ∧ (crashS st m).n = (setS st (fun k => m.testBit (k % 64))).n := by
    unfold crashS setS
    rw [keepM_eq]
    exact ⟨rfl, rfl⟩
  have hf : Fr (· = g) w2 ((w2.setCell ⟨g, 0, none⟩ (.bool false)).setCell ⟨g, 1, none⟩ (.int .i64 0)) := (Fr.set (F := (· = g)) rfl).trans (Fr.set (F := (· = g)) rfl) (fun _ _ h => h)
  have hok : (crashS st m).ok := by
    obtain ⟨a, b, c, d⟩ := H2.out.ok
    refine ⟨by rw [e1.1, e1.2]; exact a, by rw [e1.1]; exact b, by show (((0 : Nat)) : Int) ≤ _; omega, d⟩
  have hfin := H2.out.set (st' := crashS st m) hf (by simp [World.setCell]) hok B2.out e1.1 e1.2
  exact DkTo.trans (Fr.of HB.out) (Ext.refl _ _) (DkTo.trans HF2.out HE2.out ⟨hf.mono (fun k _ e => Dk.nb ⟨ms, ml, v, S, L, U, H2.out⟩ k e), T2, Ext.refl _ _, ms, ml, v, S, L, U, hfin⟩)
end Go.Proofs.YtfjiceoagenfnaaDoor
