/- Layer sector: writes, barriers, crashes. -/
import Derived.Test.YtfjiceoagenfnaaDoorSDs2
set_option maxRecDepth 20000
namespace Go.Proofs.YtfjiceoagenfnaaDoor
open Go.RowKit Go.Lib Go.ChangeMaps Go.MapKept

theorem Dk.here {W : World} {T : Nat → Prop} {st : DS} {g : Nat} (h : Dk W T st g) : T g := by
  obtain ⟨ms, ml, v, S, L, U, h⟩ := h
  exact h.here
theorem Dk.spent {W W1 : World} {T : Nat → Prop} {st st' : DS} {g : Nat} (h : Dk W T st g) (hf : Fr (· = g) W W1) (hd : Dk W1 T st' g) : DkTo W W1 T st' g :=
  ⟨hf.mono (fun k _ e => h.nb k e), T, Ext.refl _ _, hd⟩
theorem Dk.grow {W W' : World} {T T' : Nat → Prop} {st : DS} {g : Nat} (h : Dk W T st g) (hb : Below W.heap.size W W') (hT : ∀ k, T k → T' k) (ht : Ter W' T') : Dk W' T' st g := by
  have h0 := h.ter
  obtain ⟨ms, ml, v, S, L, U, h⟩ := h
  exact ⟨ms, ml, v, S, L, U, h.on hT ht (fun k hk => hb.block k (h0 k hk))⟩
theorem burn_room {st : DS} (h : st.log.length ≤ 100000) : (burn st).log.length ≤ 100000 := by rw [(burn_log st).1]; exact h
/-- Bytes that were copied are put. -/
theorem put_wr {W w2 : World} {T : Nat → Prop} {st : DS} {g i : Nat} {bs : List UInt8} {x : SV} (h : Dk W T st g) (hb : Below W.heap.size W w2) (hsv : ∀ T : Nat → Prop, (∀ k, W.heap.size ≤ k → k < w2.heap.size → T k) → SvAt w2 T x) (hx : x.bs = bs) (hn : st.log.length ≤ 100000) (hi : i < st.sz) :
    Calls Tryd.prog 53 #[.pointer (some ⟨g, 0, none⟩), .agg #[.int .i64 (i : Nat), x.v]] w2 fun e w' => e = .returned (.tuple #[]) ∧ DkTo W w' T { st with log := st.log ++ [(i, bs)] } g := by
  let T2 : Nat → Prop := fun k => T k ∨ (W.heap.size ≤ k ∧ k < w2.heap.size)
  have ht : Ter w2 T2 := fun k e => e.elim (fun e => Nat.lt_of_lt_of_le (h.ter k e) hb.size) (fun e => e.2)
  refine (put_any (h.grow hb (fun k e => .inl e) ht) (i, x) (hsv T2 (fun k h1 h2 => .inr ⟨h1, h2⟩)) hi hn).mono fun e w' ⟨h1, h2⟩ => ⟨h1, ?_⟩
  have h3 := DkTo.trans (T := T) (Fr.of hb) (T1 := T2) ⟨fun k e => .inl e, fun k e => e.imp id (fun e => e.1)⟩ h2
  unfold WV.w at h3
  rw [← hx]
  exact h3
set_option maxHeartbeats 2000000 in
theorem Write_any {W : World} {T : Nat → Prop} {st : DS} {g : Nat} (h : Dk W T st g) (hn : st.log.length ≤ 100000) (i : Int) {A : Option Addr} {c : Nat} {bs : List UInt8} (hB : BytesAt W A bs.length bs) (hlt : ∀ ad, A = some ad → ad.block < W.heap.size ∧ ¬ T ad.block) :
    Calls Tryd.prog 30 #[.pointer (some ⟨g, 0, none⟩), .int .i64 i, .slice A bs.length c] W fun e w' => e = .returned (.int .i64 (writeE st i bs)) ∧ DkTo W w' T (writeS st i bs) g := by
  have HF := Lib.hid (fault_any h)
  have HH := Lib.hid (has_any h i)
  have HD := Lib.hid h
  by_cases ho : st.out = true
  · have HP := Lib.hid (show writeE st i bs = 15 ∧ writeS st i bs = st from ⟨if_pos ho, if_pos ho⟩)
    rw [ho, dn_t] at HF
    clear h ho hB hlt
    go_enter Tryd.func30, Tryd.ntmps30
    go_wp2_with (go_at_call 50; refine HF.out.mono ?_; rintro e' w' ⟨rfl, hwz⟩; have hwz := hwz.symm; subst hwz)
    go_ret
    exact ⟨by rw [HP.out.1]; rfl, by rw [HP.out.2]; exact DkTo.refl HD.out⟩
  · rw [Bool.not_eq_true] at ho
    rw [ho, dn_f] at HF
    by_cases hb : badAt st i ∨ bs.length ≠ 512
    · have HP := Lib.hid (show writeE st i bs = 1 ∧ writeS st i bs = st from ⟨(if_neg (by rw [ho]; decide)).trans (if_pos hb), (if_neg (by rw [ho]; decide)).trans (if_pos hb)⟩)
      by_cases hb2 : badAt st i
      · rw [decide_eq_true hb2] at HH
        clear h ho hb hb2 hB hlt
        go_enter Tryd.func30, Tryd.ntmps30
        go_wp2_with (first | (go_at_call 50; refine HF.out.mono ?_; rintro e' w' ⟨rfl, hwz⟩; have hwz := hwz.symm; subst hwz) | (go_at_call 51; refine HH.out.mono ?_; rintro e' w' ⟨rfl, hwz⟩; have hwz := hwz.symm; subst hwz))
        go_ret
        exact ⟨by rw [HP.out.1]; rfl, by rw [HP.out.2]; exact DkTo.refl HD.out⟩
      · rw [decide_eq_false hb2] at HH
        have hq : ((bs.length : Int) != 512) = true := by
          rw [bne_iff_ne]
          rcases hb with hb | hb
          · exact absurd hb hb2
          · omega
        generalize bs.length = q at *
        clear h ho hb hb2 hB hlt
        go_enter Tryd.func30, Tryd.ntmps30
        go_wp2_with (first | (go_at_call 50; refine HF.out.mono ?_; rintro e' w' ⟨rfl, hwz⟩; have hwz := hwz.symm; subst hwz) | (go_at_call 51; refine HH.out.mono ?_; rintro e' w' ⟨rfl, hwz⟩; have hwz := hwz.symm; subst hwz))
        go_ret
        exact ⟨by rw [HP.out.1]; rfl, by rw [HP.out.2]; exact DkTo.refl HD.out⟩
    · have hb2 : ¬ badAt st i := fun e => hb (.inl e)
      have hq : bs.length = 512 := by
        by_cases e : bs.length = 512
        · exact e
        · exact absurd (.inr e) hb
      rw [decide_eq_false hb2] at HH
      have HS := Lib.hid (spend_any h ho)
      have HQ := Lib.hid hq
      have HA1 : Hid (∃ ad, A = some ad) := by
        obtain ⟨b, o, e, -⟩ := hB (by omega)
        exact ⟨_, e⟩
      obtain ⟨ad, rfl⟩ := HA1.out
      have HB := Lib.hid hB
      have HL := Lib.hid (hlt ad rfl)
      have HJ := Lib.hid (show 0 ≤ i ∧ i < st.sz by unfold badAt at hb2; omega)
      have HN := Lib.hid hn
      have HP0 := Lib.hid (show writeE st i bs = dn (burn st).out ∧ writeS st i bs = if (burn st).out = true then burn st else { burn st with log := st.log ++ [(i.toNat, bs)] } from ⟨by
        unfold writeE dn
        rw [if_neg (by rw [ho]; decide), if_neg hb], by
        unfold writeS
        rw [if_neg (by rw [ho]; decide), if_neg hb]⟩)
      clear h ho hb hb2 hB hlt hn HA1
      cases hbo : (burn st).out
      · rw [hbo, dn_f] at HS
        rw [hbo, dn_f, if_neg (by decide)] at HP0
        obtain ⟨j, rfl⟩ : ∃ j : Nat, i = j := ⟨i.toNat, by have := HJ.out; omega⟩
        rw [hq]
        go_enter Tryd.func30, Tryd.ntmps30
        go_upto_region 9 with (first | (go_at_call 50; refine HF.out.mono ?_; rintro e' w' ⟨rfl, hwz⟩; have hwz := hwz.symm; subst hwz) | (go_at_call 51; refine HH.out.mono ?_; rintro e' w' ⟨rfl, hwz⟩; have hwz := hwz.symm; subst hwz) | (go_at_call 52; refine HS.out.mono ?_; rintro e' w1 ⟨rfl, hd1, hf1, hs1⟩; have HD1 := Lib.hid hd1; have HF1 := Lib.hid hf1; have HS1 := Lib.hid hs1; clear hd1 hf1 hs1))
        have hBl : ¬ ad.block = g := fun e => HL.out.2 (e ▸ HD.out.here)
        have hB1 : BytesAt w1 (some ad) bs.length bs := HB.out.fr (fun ad' e => (by cases e; exact HL.out.1)) HF1.out (fun ad' e => (by cases e; exact hBl))
        have hC := Clone_any (c := c) hB1 (by omega)
        rw [hq] at hC
        have HC := Lib.hid hC
        clear hC hB1 hBl
        go_wp2_with (first | (go_at_call 54; refine HC.out.mono ?_; rintro e' w2 ⟨v2, rfl, hr2⟩; obtain ⟨x2, ev, hx2, hsv⟩ := hr2.sv HQ.out; have ev2 : x2.v = .slice x2.A 512 x2.cap := (by unfold SV.v; rw [hx2, HQ.out]); rw [ev2] at ev; subst ev; have HPUT := Lib.hid (put_wr HD1.out hr2.1 hsv hx2 (i := j) (burn_room HN.out) (by rw [(burn_log st).2.2]; have := HJ.out; omega)); rw [ev2] at HPUT; have HB2 := Lib.hid hr2.1; clear hx2 hsv hr2 ev2) | (go_at_call 53; refine HPUT.out.mono ?_; rintro e' w3 ⟨rfl, hd3⟩; have HD3 := Lib.hid hd3; clear hd3))
        go_ret
        refine ⟨by rw [HP0.out.1]; rfl, ?_⟩
        rw [HP0.out.2, Int.toNat_natCast, ← (burn_log st).1]
        exact DkTo.trans (HF1.out.mono (fun k _ e => HD.out.nb k e)) (Ext.refl _ _) HD3.out
      · rw [hbo, dn_t] at HS
        rw [hbo, dn_t, if_pos rfl] at HP0
        clear HJ hbo
        rw [hq]
        go_enter Tryd.func30, Tryd.ntmps30
        go_wp2_with (first | (go_at_call 50; refine HF.out.mono ?_; rintro e' w' ⟨rfl, hwz⟩; have hwz := hwz.symm; subst hwz) | (go_at_call 51; refine HH.out.mono ?_; rintro e' w' ⟨rfl, hwz⟩; have hwz := hwz.symm; subst hwz) | (go_at_call 52; refine HS.out.mono ?_; rintro e' w1 ⟨rfl, hd1, hf1, hs1⟩; have HD1 := Lib.hid hd1; have HF1 := Lib.hid hf1; have HS1 := Lib.hid hs1; clear hd1 hf1 hs1))
        go_ret
        exact ⟨by rw [HP0.out.1]; rfl, by rw [HP0.out.2]; exact HD.out.spent HF1.out HD1.out⟩
end Go.Proofs.YtfjiceoagenfnaaDoor
