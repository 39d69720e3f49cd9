/- Layer pager: New. -/
import Derived.Test.YtfjiceoagenfnaaDoorPOp2
set_option maxRecDepth 20000
namespace Go.Proofs.YtfjiceoagenfnaaDoor
open Go.RowKit Go.Lib Go.ChangeMaps Go.MapKept

/-- Where an operation leads at which the power goes. -/
def DnTo (W W' : World) (T : Nat → Prop) (st : DS) (gd g gs : Nat) : Prop := Fr (FB W T g gs) W W' ∧ ∃ T', Ext W T T' ∧ Dk W' T' st gd
theorem BoTo.dn {W W' : World} {T : Nat → Prop} {st : DS} {ps : PS} {gd g gs : Nat} (h : BoTo W W' T st ps gd g gs) : DnTo W W' T st gd g gs := by
  obtain ⟨f, T', e, h⟩ := h
  exact ⟨f, T', e, h.dk⟩
theorem fault_ok {W : World} {T : Nat → Prop} {st : DS} {ps : PS} {gd g gs : Nat} (h : Bo W T st ps gd g gs) (ho : st.out = false) :
    Calls Tryd.prog 27 #[.pointer (some ⟨g, 0, none⟩), .slice none 0 0] W fun e w' => e = .returned (.int .i64 0) ∧ w' = W := faultP_any h ho (l := []) (c := 0) (IntsAt.nil W) (by decide)
theorem New_nil (W : World) (A : Option Addr) (n c : Nat) : Calls Tryd.prog 10 #[.pointer none, .slice A n c] W fun e w' => e = .returned (.tuple #[.int .i64 0, .int .i64 1]) ∧ w' = W := by
  have HF := Lib.hid (fault_none W none 0 0)
  go_enter Tryd.func10, Tryd.ntmps10
  go_wp2_with (go_at_call 27; refine HF.out.mono ?_; rintro e' wz ⟨rfl, hwz⟩; have hwz := hwz.symm; subst hwz)
  go_ret2
  exact ⟨rfl, rfl⟩
set_option maxHeartbeats 2000000 in
theorem New_large {W : World} (hE : Env W) {T : Nat → Prop} {st : DS} {ps : PS} {gd g gs : Nat} (h : Bo W T st ps gd g gs) (ho : st.out = false) {A : Option Addr} {c : Nat} {d : List UInt8} (hB : BytesAt W A d.length d) (hn : A = none → c = 0) (hd : 505 < d.length) :
    Calls Tryd.prog 10 #[.pointer (some ⟨g, 0, none⟩), .slice A d.length c] W fun e w' => e = .returned (.tuple #[.int .i64 0, .int .i64 12]) ∧ Below W.heap.size W w' := by
  have HF := Lib.hid (fault_ok h ho)
  have hs := Seal_any hE (c := c) 2 hB hn
  rw [show slE 2 d = 12 by unfold slE; rw [if_neg (by decide), if_pos hd]; rfl] at hs
  have HS := Lib.hid hs
  clear h ho hB hn hd hs hE
  generalize d.length = n at *
  go_enter Tryd.func10, Tryd.ntmps10
  go_wp2_with (first | (go_at_call 27; refine HF.out.mono ?_; rintro e' wz ⟨rfl, hwz⟩; have hwz := hwz.symm; subst hwz) | (go_at_call 28; refine HS.out.mono ?_; rintro e' w1 ⟨v1, rfl, hr1⟩; have HR1 := Lib.hid hr1.1; clear hr1))
  go_ret2
  exact ⟨rfl, HR1.out⟩
/-- What the sealing of not too many bytes answers. -/
theorem Seal_ok {W : World} (hE : Env W) {A : Option Addr} {c : Nat} {d : List UInt8} (hB : BytesAt W A d.length d) (hn : A = none → c = 0) (hd : d.length ≤ 505) :
    Calls Tryd.prog 28 #[.int .i64 2, .slice A d.length c] W fun e w' => ∃ A1 c1, e = .returned (.tuple #[.slice A1 512 c1, .int .i64 0]) ∧ Below W.heap.size W w' ∧ BytesAt w' A1 512 (sealL 2 d) ∧ ∀ ad, A1 = some ad → W.heap.size ≤ ad.block ∧ ad.block < w'.heap.size := by
  have e0 : slE 2 d = 0 := by unfold slE; rw [if_neg (by decide), if_neg (by omega)]
  refine (Seal_any hE (c := c) 2 hB hn).mono fun e w' ⟨v, e1, hr⟩ => ?_
  rw [show slV 2 d = sealL 2 d by unfold slV; rw [if_pos e0]; rfl] at hr
  rw [e0] at e1
  obtain ⟨A1, c1, ev, hB1, hk, -, -⟩ := hr.at
  rw [sealL_len hd] at ev hB1
  subst ev
  exact ⟨A1, c1, e1, hr.1, hB1, hk⟩
def wrS (st : DS) (i : Nat) (bs : List UInt8) : DS := { burn st with log := st.log ++ [(i, bs)] }
theorem burn_sz (st : DS) : (burn st).sz = st.sz := by unfold burn; split <;> rfl
theorem write_ok {st : DS} {i : Nat} {bs : List UInt8} (ho : st.out = false) (hi : i < st.sz) (hb : bs.length = 512) : ((burn st).out = true → writeE st i bs = 15 ∧ writeS st i bs = burn st) ∧ ((burn st).out = false → writeE st i bs = 0 ∧ writeS st i bs = wrS st i bs) := by
  have hn : ¬ (badAt st (i : Int) ∨ bs.length ≠ 512) := by
    rintro (e | e)
    · unfold badAt at e; omega
    · exact e hb
  constructor
  · intro h
    unfold writeE writeS
    rw [if_neg (by rw [ho]; decide), if_neg hn, if_pos h, if_neg (by rw [ho]; decide), if_neg hn, if_pos h]
    exact ⟨rfl, rfl⟩
  · intro h
    unfold writeE writeS wrS
    rw [if_neg (by rw [ho]; decide), if_neg hn, if_neg (by rw [h]; decide), if_neg (by rw [ho]; decide), if_neg hn, if_neg (by rw [h]; decide)]
    exact ⟨rfl, rfl⟩
set_option maxHeartbeats 4000000 in
theorem New_full {W : World} (hE : Env W) {T : Nat → Prop} {st : DS} {ps : PS} {gd g gs : Nat} (h : Bo W T st ps gd g gs) (ho : st.out = false) {A : Option Addr} {c : Nat} {d : List UInt8} (hB : BytesAt W A d.length d) (hn : A = none → c = 0) (hd : d.length ≤ 505)
    (hx : ∀ i, 2 ≤ i → i < st.sz → fre (ps.ts.getD i 0) = false) :
    Calls Tryd.prog 10 #[.pointer (some ⟨g, 0, none⟩), .slice A d.length c] W fun e w' => e = .returned (.tuple #[.int .i64 0, .int .i64 16]) ∧ BoTo W w' T st ps gd g gs := by
  have HF := Lib.hid (fault_ok h ho)
  have HS := Lib.hid (Seal_ok hE (c := c) hB hn hd)
  have HH := Lib.hid h
  have HO := Lib.hid ho
  have HSL := Lib.hid (sealL_len (kind := 2) hd)
  have HTR := Lib.hid h.dk.ter
  have HX := Lib.hid hx
  clear h ho hB hn hd hE hx
  generalize d.length = n at *
  go_enter Tryd.func10, Tryd.ntmps10
  go_wp2_with (first | (go_at_call 27; refine HF.out.mono ?_; rintro e' wz ⟨rfl, hwz⟩; have hwz := hwz.symm; subst hwz) | (go_at_call 28; refine HS.out.mono ?_; rintro e' w1 ⟨A1, c1, rfl, hb1, hB1, hk1⟩; have HB1 := Lib.hid hb1; have HY1 := Lib.hid (And.intro hB1 hk1); have h1 := HH.out.grow hb1; have H1 := Lib.hid h1; obtain ⟨lw1, hp1⟩ := h1.pg; have HFF := Lib.hid (firstFree_any hp1); clear hb1 hB1 hk1 h1 hp1) | (go_at_call 29; refine HFF.out.mono ?_; rintro e' w2 ⟨f, lw2, rfl, hf, hfr, hp2⟩; have e0 : isPgB f st.sz = false := (isPgB_f (by have h1 := hf.2.2.2; have h2 := hf.1; have h3 := hp2.len; rintro ⟨h4, h5⟩; have h6 := h1 (by omega); rw [HX.out f (by omega) (by omega)] at h6; cases h6)); rw [e0]; have HP2 := Lib.hid (And.intro hfr hp2); clear hf hfr hp2 e0))
  go_ret2
  exact ⟨rfl, (BoTo.below HH.out HB1.out).trans HH.out (fun T1 b1 => b1.tab HP2.out.1 HP2.out.2)⟩
theorem first_there {ts : List Nat} {n f : Nat} (hx : ∃ i, 2 ≤ i ∧ i < n ∧ fre (ts.getD i 0) = true) (hn : ts.length = n) (h : IsFirst ts f) : 2 ≤ f ∧ f < n ∧ fre (ts.getD f 0) = true := by
  obtain ⟨i, h2, hi, hf⟩ := hx
  obtain ⟨a, b, c, d⟩ := h
  have hfn : f < n := by
    rcases Nat.lt_or_ge f n with h3 | h3
    · exact h3
    · have := c i h2 (by omega)
      rw [hf] at this; cases this
  exact ⟨a, hfn, d (by omega)⟩
theorem Bo.tabB {W W' : World} {T : Nat → Prop} {st : DS} {ps ps' : PS} {gd g gs : Nat} (h : Bo W T st ps gd g gs) (hf : Fr (TB g gs) W W') {low' : Nat} (hp : PAt W' st.sz ps' gd g gs low') : Bo W' T st ps' gd g gs :=
  ⟨h.dk.fr hf (fun _ hk e => e.elim (fun e => h.tg (e ▸ hk)) (fun e => h.ts (e ▸ hk))), ⟨low', hp⟩, h.tg, h.ts⟩
theorem Bo.fb1 {W w1 w2 : World} {T : Nat → Prop} {st : DS} {ps : PS} {gd g gs : Nat} (h : Bo W T st ps gd g gs) (hb : Below W.heap.size W w1) (hf : Fr (TB g gs) w1 w2) : Fr (FB W T g gs) W w2 :=
  (Fr.of hb).fb (T1 := T) (Ext.refl _ _) h.nb (hf.mono (fun _ _ e => .inr e))
theorem dk_off {w2 : World} {T T' : Nat → Prop} {st : DS} {ps : PS} {gd g gs : Nat} (h2 : Bo w2 T st ps gd g gs) (e : Ext w2 T T') : ¬ T' g ∧ ¬ T' gs := by
  have hl := h2.lt
  exact ⟨fun e2 => (e.2 _ e2).elim h2.tg (fun e3 => by omega), fun e2 => (e.2 _ e2).elim h2.ts (fun e3 => by omega)⟩
theorem dn_comp {W w2 w3 w4 : World} {T : Nat → Prop} {st0 st st' : DS} {ps0 ps : PS} {gd g gs : Nat} (h : Bo W T st0 ps0 gd g gs) (f : Fr (FB W T g gs) W w2) (h2 : Bo w2 T st ps gd g gs) (hd : DkTo w2 w3 T st' gd) (ht : Fr (TB g gs) w3 w4) : DnTo W w4 T st' gd g gs := by
  obtain ⟨fd, T', e, dk⟩ := hd
  have ho := dk_off h2 e
  have eW : Ext W T T' := ⟨e.1, fun k hk => (e.2 k hk).imp id (fun h3 => by have := f.1.size; omega)⟩
  have f3 := f.fb (T1 := T) (Ext.refl _ _) h.nb (fd.mono (fun k _ e => .inl e))
  exact ⟨f3.fb eW h.nb (ht.mono (fun k _ e => .inr e)), T', eW, dk.fr ht (fun k hk e => e.elim (fun e => ho.1 (e ▸ hk)) (fun e => ho.2 (e ▸ hk)))⟩
theorem bo_comp {W w2 w3 w4 : World} {T : Nat → Prop} {st0 st st' : DS} {ps0 ps ps' : PS} {gd g gs low' : Nat} (h : Bo W T st0 ps0 gd g gs) (f : Fr (FB W T g gs) W w2) (h2 : Bo w2 T st ps gd g gs) (hd : DkTo w2 w3 T st' gd) (ht : Fr (TB g gs) w3 w4) (hp : PAt w4 st'.sz ps' gd g gs low') : BoTo W w4 T st' ps' gd g gs := by
  obtain ⟨fd, T', e, dk⟩ := hd
  have ho := dk_off h2 e
  have eW : Ext W T T' := ⟨e.1, fun k hk => (e.2 k hk).imp id (fun h3 => by have := f.1.size; omega)⟩
  have f3 := f.fb (T1 := T) (Ext.refl _ _) h.nb (fd.mono (fun k _ e => .inl e))
  exact ⟨f3.fb eW h.nb (ht.mono (fun k _ e => .inr e)), T', eW, dk.fr ht (fun k hk e => e.elim (fun e => ho.1 (e ▸ hk)) (fun e => ho.2 (e ▸ hk))), ⟨low', hp⟩, ho.1, ho.2⟩
theorem pat_disk {w2 w3 : World} {T : Nat → Prop} {st st' : DS} {ps : PS} {gd g gs n low : Nat} (hd : DkTo w2 w3 T st' gd) (h2 : Bo w2 T st ps gd g gs) (hp : PAt w2 n ps gd g gs low) : PAt w3 n ps gd g gs low := hp.fr hd.1 (fun e => h2.tg e.1) (fun e => h2.ts e.1)
/-- The write of what was sealed. -/
theorem write_at {W w1 w2 : World} {T : Nat → Prop} {st : DS} {ps ps2 : PS} {gd g gs : Nat} (h : Bo W T st ps gd g gs) {A1 : Option Addr} {c1 : Nat} {bs : List UInt8} (hY : BytesAt w1 A1 512 bs ∧ ∀ ad, A1 = some ad → W.heap.size ≤ ad.block ∧ ad.block < w1.heap.size)
    (h2 : Bo w2 T st ps2 gd g gs) (hfr : Fr (TB g gs) w1 w2) (hbl : bs.length = 512) (hn : st.log.length ≤ 90000) (i : Nat) :
    Calls Tryd.prog 30 #[.pointer (some ⟨gd, 0, none⟩), .int .i64 (i : Nat), .slice A1 512 c1] w2 fun e w' => e = .returned (.int .i64 (writeE st i bs)) ∧ DkTo w2 w' T (writeS st i bs) gd := by
  have hB : BytesAt w2 A1 bs.length bs := by
    rw [hbl]
    intro h0
    obtain ⟨b, o, e, hc⟩ := hY.1 h0
    have hk := hY.2 _ e
    have hg := h.lt
    refine ⟨b, o, e, fun j hj => (hfr.cell (p := ⟨b, o + j, none⟩) hk.2 (fun e2 => ?_)).trans (hc j hj)⟩
    rcases e2 with e2 | e2
    · have : b = g := e2
      have h3 : W.heap.size ≤ b := hk.1
      omega
    · have : b = gs := e2
      have h3 : W.heap.size ≤ b := hk.1
      omega
  have := Write_any h2.dk (by omega) (i : Int) (c := c1) hB (fun ad e => by
    have hk := hY.2 ad e
    exact ⟨Nat.lt_of_lt_of_le hk.2 hfr.1.size, fun hT => by have := h.dk.ter _ hT; omega⟩)
  rwa [hbl] at this
set_option maxHeartbeats 4000000 in
theorem New_down {W : World} (hE : Env W) {T : Nat → Prop} {st : DS} {ps : PS} {gd g gs : Nat} (h : Bo W T st ps gd g gs) (ho : st.out = false) {A : Option Addr} {c : Nat} {d : List UInt8} (hB : BytesAt W A d.length d) (hn : A = none → c = 0) (hd : d.length ≤ 505)
    (hx : ∃ i, 2 ≤ i ∧ i < st.sz ∧ fre (ps.ts.getD i 0) = true) (hl : st.log.length ≤ 90000) (hb : (burn st).out = true) :
    Calls Tryd.prog 10 #[.pointer (some ⟨g, 0, none⟩), .slice A d.length c] W fun e w' => e = .returned (.tuple #[.int .i64 0, .int .i64 15]) ∧ DnTo W w' T (burn st) gd g gs := by
  have HF := Lib.hid (fault_ok h ho)
  have HS := Lib.hid (Seal_ok hE (c := c) hB hn hd)
  have HH := Lib.hid h
  have HO := Lib.hid ho
  have HSL := Lib.hid (sealL_len (kind := 2) hd)
  have HTR := Lib.hid h.dk.ter
  have HX := Lib.hid hx
  have HN := Lib.hid hl
  have HBN := Lib.hid hb
  have hbs : (sealL 2 d).length = 512 := sealL_len hd
  clear h ho hB hn hd hE hx hl hb
  generalize d.length = n at *
  generalize sealL 2 d = bs at *
  go_enter Tryd.func10, Tryd.ntmps10
  go_wp2_with (first | (go_at_call 27; refine HF.out.mono ?_; rintro e' wz ⟨rfl, hwz⟩; have hwz := hwz.symm; subst hwz) | (go_at_call 28; refine HS.out.mono ?_; rintro e' w1 ⟨A1, c1, rfl, hb1, hB1, hk1⟩; have HB1 := Lib.hid hb1; have HY1 := Lib.hid (And.intro hB1 hk1); have h1 := HH.out.grow hb1; have H1 := Lib.hid h1; obtain ⟨lw1, hp1⟩ := h1.pg; have HFF := Lib.hid (firstFree_any hp1); clear hb1 hB1 hk1 h1 hp1) | (go_at_call 29; refine HFF.out.mono ?_; rintro e' w2 ⟨f, lw2, rfl, hf, hfr, hp2⟩; obtain ⟨hf2, hfn, hff⟩ := first_there HX.out hp2.len hf; rw [isPgB_t hf2 hfn]; have d0 := hp2.d0; have hb2 := H1.out.tabB hfr hp2; have HB2 := Lib.hid hb2; have HP2 := Lib.hid (And.intro hf2 (And.intro hfn (And.intro hff (And.intro hfr hp2)))); have HWR := Lib.hid (write_at (c1 := c1) HH.out HY1.out hb2 hfr HSL.out HN.out f); clear hf2 hfn hff hfr hp2 hb2 hf) | (go_at_call 30; refine HWR.out.mono ?_; rintro e' w3 ⟨rfl, hd3⟩; have hwk := (write_ok HO.out HP2.out.2.1 HSL.out).1 HBN.out; rw [hwk.2] at hd3; rw [hwk.1]; have HD3 := Lib.hid hd3; have HTD := Lib.hid (told_down (pat_disk hd3 HB2.out HP2.out.2.2.2.2)); clear hd3 hwk) | (go_at_call 31; refine HTD.out.mono ?_; rintro e' w4 ⟨rfl, hf4⟩; have HF4 := Lib.hid hf4; clear hf4))
  go_ret2
  exact ⟨rfl, dn_comp HH.out (HH.out.fb1 HB1.out HP2.out.2.2.2.1) HB2.out HD3.out HF4.out⟩
set_option maxHeartbeats 4000000 in
theorem New_ok {W : World} (hE : Env W) {T : Nat → Prop} {st : DS} {ps : PS} {gd g gs : Nat} (h : Bo W T st ps gd g gs) (ho : st.out = false) {A : Option Addr} {c : Nat} {d : List UInt8} (hB : BytesAt W A d.length d) (hn : A = none → c = 0) (hd : d.length ≤ 505)
    (hx : ∃ i, 2 ≤ i ∧ i < st.sz ∧ fre (ps.ts.getD i 0) = true) (hl : st.log.length ≤ 90000) (hb : (burn st).out = false) :
    Calls Tryd.prog 10 #[.pointer (some ⟨g, 0, none⟩), .slice A d.length c] W fun e w' => ∃ f, 2 ≤ f ∧ f < st.sz ∧ fre (ps.ts.getD f 0) = true ∧ e = .returned (.tuple #[.int .i64 (f : Nat), .int .i64 0]) ∧ BoTo W w' T (wrS st f (sealL 2 d)) { ps with ts := ps.ts.set f 2 } gd g gs := by
  have HF := Lib.hid (fault_ok h ho)
  have HS := Lib.hid (Seal_ok hE (c := c) hB hn hd)
  have HH := Lib.hid h
  have HO := Lib.hid ho
  have HSL := Lib.hid (sealL_len (kind := 2) hd)
  have HTR := Lib.hid h.dk.ter
  have HX := Lib.hid hx
  have HN := Lib.hid hl
  have HBN := Lib.hid hb
  have hbs : (sealL 2 d).length = 512 := sealL_len hd
  clear h ho hB hn hd hE hx hl hb
  generalize d.length = n at *
  generalize sealL 2 d = bs at *
  go_enter Tryd.func10, Tryd.ntmps10
  go_wp2_with (first | (go_at_call 27; refine HF.out.mono ?_; rintro e' wz ⟨rfl, hwz⟩; have hwz := hwz.symm; subst hwz) | (go_at_call 28; refine HS.out.mono ?_; rintro e' w1 ⟨A1, c1, rfl, hb1, hB1, hk1⟩; have HB1 := Lib.hid hb1; have HY1 := Lib.hid (And.intro hB1 hk1); have h1 := HH.out.grow hb1; have H1 := Lib.hid h1; obtain ⟨lw1, hp1⟩ := h1.pg; have HFF := Lib.hid (firstFree_any hp1); clear hb1 hB1 hk1 h1 hp1) | (go_at_call 29; refine HFF.out.mono ?_; rintro e' w2 ⟨f, lw2, rfl, hf, hfr, hp2⟩; obtain ⟨hf2, hfn, hff⟩ := first_there HX.out hp2.len hf; rw [isPgB_t hf2 hfn]; have d0 := hp2.d0; have hb2 := H1.out.tabB hfr hp2; have HB2 := Lib.hid hb2; have HP2 := Lib.hid (And.intro hf2 (And.intro hfn (And.intro hff (And.intro hfr hp2)))); have HWR := Lib.hid (write_at (c1 := c1) HH.out HY1.out hb2 hfr HSL.out HN.out f); clear hf2 hfn hff hfr hp2 hb2 hf) | (go_at_call 30; refine HWR.out.mono ?_; rintro e' w3 ⟨rfl, hd3⟩; have hwk := (write_ok HO.out HP2.out.2.1 HSL.out).2 HBN.out; rw [hwk.2] at hd3; rw [hwk.1]; have HD3 := Lib.hid hd3; have HTD := Lib.hid (set_any (pat_disk hd3 HB2.out HP2.out.2.2.2.2) HP2.out.1 HP2.out.2.1 (c := 2) (by decide)); clear hd3 hwk) | (go_at_call 32; refine HTD.out.mono ?_; rintro e' w4 ⟨rfl, hf4, lw4, hp4⟩; have HF4 := Lib.hid (And.intro hf4 hp4); clear hf4 hp4))
  go_ret2
  exact ⟨f, HP2.out.1, HP2.out.2.1, HP2.out.2.2.1, rfl, bo_comp HH.out (HH.out.fb1 HB1.out HP2.out.2.2.2.1) HB2.out HD3.out HF4.out.1 (by rw [show (wrS st f bs).sz = st.sz from burn_sz st]; exact HF4.out.2)⟩
end Go.Proofs.YtfjiceoagenfnaaDoor
