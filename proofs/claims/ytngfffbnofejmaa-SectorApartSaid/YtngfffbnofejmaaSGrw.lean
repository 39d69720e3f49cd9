/- Layer sector, the law's own: a program that answers, disks on which acts were done. -/
import Derived.Test.YtngfffbnofejmaaSOpen
namespace Go.Proofs.Ytngfffbnofejmaa
open Go.RowKit Go.Lib Go.ChangeMaps Go.MapKept

theorem keepM_le (m : Nat) (l : List Wr) (k : Nat) : (keepM m k l).length ≤ l.length := by rw [keepM_eq]; exact keepF_len _ _ _
theorem actS_len (st : DS) (a : AV) : (actS st a).log.length ≤ st.log.length + 1 := by
  unfold actS
  split
  · unfold writeS
    split
    · omega
    · split
      · omega
      · split
        · rw [(burn_log st).1]; omega
        · simp
  split
  · unfold barrS
    split
    · omega
    · split <;> rw [(burn_log st).1] <;> omega
  split
  · unfold limS; split <;> exact Nat.le_succ _
  split
  · show (st.sure ++ keepM a.mask 0 st.un).length ≤ _
    rw [List.length_append]
    have h1 := keepM_le a.mask st.un 0
    have h2 : st.sure.length + st.un.length = st.log.length := by
      rw [← List.length_append, show st.sure ++ st.un = st.log from List.take_append_drop ..]
    omega
  · omega
def acted (st : DS) (l : List AV) : DS := l.foldl actS st
def new6 : DS := ⟨6, [], 0, 0, false⟩
theorem act_at {W : World} {A : Option Addr} {l : List AV} (h : ActsAt W A l) {k : Nat} (hk : k < l.length) : ∃ b o, A = some ⟨b, o, none⟩ ∧ b < W.heap.size ∧ (l[k]).ok ∧
    W.cell? ⟨b, o + k * 5, none⟩ = some (.int .i64 (l[k]).kind) ∧ W.cell? ⟨b, o + k * 5 + 1, none⟩ = some (.int .i64 (l[k]).pos) ∧ W.cell? ⟨b, o + k * 5 + 2, none⟩ = some (.int .u8 ((l[k]).fill.toNat : Nat)) ∧
    W.cell? ⟨b, o + k * 5 + 3, none⟩ = some (.bool (l[k]).odd) ∧ W.cell? ⟨b, o + k * 5 + 4, none⟩ = some (.int .u64 ((l[k]).mask : Nat)) := by
  obtain ⟨b, o, e, hlt, hc⟩ := h (by omega)
  exact ⟨b, o, e, hlt, hc k hk⟩
theorem new_lt (W : World) (o : Obj) : W.heap.size < (W.alloc o).heap.size := by rw [al_size]; omega
/-- A new disk of the document. -/
theorem new_ref {W : World} {n : Nat} (hn : n ≤ 65536) : Rk (W.alloc (Obj.cells #[.int .i64 (n : Nat), .slice none 0 0, .int .i64 0, .int .i64 0, .bool false] 31 (0, 0))) (fun k => k = W.heap.size) ⟨n, [], 0, 0, false⟩ W.heap.size :=
  ⟨.slice none 0 0, [], { ok := ⟨Nat.le_refl _, fun w hw => (by cases hw), (show ((0 : Nat) : Int) ≤ 9223372036854775807 by decide), hn⟩, ter := fun k (e : k = W.heap.size) => e ▸ new_lt W _, here := rfl, blk := heap_alloc_new W _, row := { row := World.ownsRow_nil _ _ _ _, ter := fun k e => (by cases e), sv := fun x hx => (by cases hx) }, log := rfl }⟩
theorem write_in {st : DS} {i : Int} {s : List UInt8} (ho : st.out = false) (hl : st.left = 0) (hi : ¬ badAt st i) (hs : s.length = 512) : writeE st i s = 0 ∧ writeS st i s = { st with log := st.log ++ [(i.toNat, s)] } := by
  have hb : burn st = st := by unfold burn; rw [if_pos hl]
  have h1 : ¬ (badAt st i ∨ s.length ≠ 512) := fun e => e.elim hi (fun e => e hs)
  have h0 : ¬ st.out = true := by rw [ho]; decide
  have h2 : ¬ (burn st).out = true := by rw [hb, ho]; decide
  refine ⟨(if_neg h0).trans ((if_neg h1).trans (if_neg h2)), (if_neg h0).trans ((if_neg h1).trans ((if_neg h2).trans ?_))⟩
  rw [hb]
theorem read_in {st : DS} {i : Nat} (ho : st.out = false) (hi : i < st.sz) : readE st (i : Int) = 0 ∧ readS st (i : Int) = nowL st.log i := by
  have h1 : readE st (i : Int) = 0 := by unfold readE; rw [if_neg (by rw [ho]; decide), if_neg (show ¬ badAt st (i : Int) from fun e => by unfold badAt at e; omega)]
  exact ⟨h1, by unfold readS; rw [if_pos h1, Int.toNat_natCast]⟩
set_option maxHeartbeats 1000000 in
theorem answers_any (W : World) : Calls Try.prog 9 #[] W fun e w' => e = .returned (.bool true) ∧ Below W.heap.size W w' := by
  have HNW := Lib.hid (New_good W 2 (by unfold newOk; omega))
  go_enter Try.func9, Try.ntmps9
  go_upto_region 4 with (go_at_call 8; refine HNW.out.mono ?_; rintro e' w1 ⟨g, T, rfl, hb, ht, hd⟩; have HB1 := Lib.hid hb; have HT1 := Lib.hid ht; have HD1 := Lib.hid hd; clear hb ht hd)
  obtain ⟨D, hD⟩ : ∃ D, Hid (D = dataL 7 false) := ⟨_, Lib.hid rfl⟩
  have HDL : Hid (D.length = 512) := Lib.hid (by rw [hD.out, dataL_len]; rfl)
  have hdat : Calls Try.prog 21 #[.int .u8 7, .bool false] w1 fun e w' => ∃ v, e = .returned v ∧ BRow w1 v D w' := by rw [hD.out]; exact data_any w1 7 false
  have HDAT := Lib.hid hdat
  clear hdat
  have HW0 : Hid (∀ w2 v, BRow w1 v D w2 → Calls Try.prog 22 #[.pointer (some ⟨g, 0, none⟩), .int .i64 1, v] w2 fun e w' => e = .returned (.int .i64 0) ∧ DkTo w2 w' T ⟨2, [(1, D)], 0, 0, false⟩ g) := by
    refine Lib.hid fun w2 v hv => ?_
    obtain ⟨A, c, rfl, hb, hk⟩ := row_arg hv
    obtain ⟨e1, e2⟩ := write_in (st := ⟨2, [], 0, 0, false⟩) (i := 1) rfl rfl (by decide) HDL.out
    refine (Write_any (HD1.out.grow hv.1 (fun _ h => h) (HD1.out.ter.on hv.1.size)) (by decide) 1 hb (fun ad e => ⟨(hk ad e).2, fun e2 => by have := HD1.out.ter _ e2; have := (hk ad e).1; omega⟩)).mono fun e w' ⟨h1, h2⟩ => ?_
    rw [e1] at h1
    rw [e2] at h2
    exact ⟨h1, h2⟩
  go_upto_region 5 with (first | (go_at_call 21; refine HDAT.out.mono ?_; rintro e' w2 ⟨v2, rfl, hv2⟩; have HV2 := Lib.hid hv2; have HWR := Lib.hid (HW0.out w2 v2 hv2); clear hv2) | (go_at_call 22; refine HWR.out.mono ?_; rintro e' w3 ⟨rfl, hd3⟩; have HD3 := Lib.hid hd3; clear hd3))
  obtain ⟨hf3, T3, he3, hd3⟩ := HD3.out
  have HRD := Lib.hid (Read_any hd3 1 (by unfold In64; omega))
  have HF3 := Lib.hid hf3
  have HRE := Lib.hid (read_in (st := ⟨2, [(1, D)], 0, 0, false⟩) (i := 1) rfl (show 1 < 2 by decide))
  clear hf3 he3 hd3
  go_upto_region 6 with (go_at_call 16; refine HRD.out.mono ?_; rintro e' w4 ⟨v4, rfl, hv4⟩; have HV4 := Lib.hid hv4; clear hv4)
  have hre : readE ⟨2, [(1, D)], 0, 0, false⟩ 1 = 0 := HRE.out.1
  have hv4 := HV4.out
  rw [show readS ⟨2, [(1, D)], 0, 0, false⟩ 1 = D from HRE.out.2] at hv4
  rw [hre]
  obtain ⟨A, c, rfl, hb, hk⟩ := row_arg hv4
  obtain ⟨b, o, rfl, hc⟩ := hb (by rw [HDL.out]; decide)
  have h9 := hc 9 (by rw [HDL.out]; decide)
  have e9 : (((D.getD 9 0).toNat : Nat) : Int) = 7 := by rw [hD.out]; rfl
  rw [e9] at h9
  rw [HDL.out]
  have HEND : Hid (Below W.heap.size W w4) := by
    have h1 := HB1.out.trans (HV2.out.1.mono HB1.out.size)
    have h2 := HF3.out.below h1 h1.size (fun k e => HT1.out k e.1)
    exact Lib.hid (h2.trans (hv4.1.mono h2.size))
  clear hre hv4 hb hk hc e9
  go_wp2_with fail
  go_ret
  exact ⟨rfl, HEND.out⟩
theorem actS_sz (st : DS) (a : AV) : (actS st a).sz = st.sz := by
  unfold actS
  split
  · unfold writeS
    split
    · rfl
    · split
      · rfl
      · split <;> exact (burn_log st).2.2
  split
  · unfold barrS
    split
    · rfl
    · split <;> exact (burn_log st).2.2
  split
  · unfold limS; split <;> rfl
  split <;> rfl
/-- Two disks on which the same was done. -/
def Grown (W w' : World) (g r : Nat) (n m : Nat) : Prop := Below W.heap.size W w' ∧ ∃ T R st, (∀ k, T k → W.heap.size ≤ k) ∧ (∀ k, R k → W.heap.size ≤ k) ∧ Both w' T R st st g r ∧ st.log.length ≤ m ∧ st.sz = n
theorem Grown.step {W W1 W2 : World} {g r n m : Nat} {T R : Nat → Prop} {st' : DS} (hb : Below W.heap.size W W1) (hT : ∀ k, T k → W.heap.size ≤ k) (hR : ∀ k, R k → W.heap.size ≤ k) (h : BothTo W1 W2 T R st' st' g r) (hl : st'.log.length ≤ m) (hs : st'.sz = n) : Grown W W2 g r n m := by
  obtain ⟨f, T', R', e1, e2, hh⟩ := h
  refine ⟨f.below hb hb.size (fun k e => e.elim (fun e => hT k e.1) (fun e => hR k e.1)), T', R', st', fun k e => (e1.2 k e).elim (hT k) (fun e => by have := hb.size; omega), fun k e => (e2.2 k e).elim (hR k) (fun e => by have := hb.size; omega), hh, hl, hs⟩
set_option maxHeartbeats 2000000 in
theorem grown_any {W : World} {A : Option Addr} {l : List AV} {cap : Nat} (h : ActsAt W A l) (hl : l.length ≤ 9223372036854775807) :
    Calls Try.prog 13 #[.slice A l.length cap] W fun e w' => ∃ g r, e = .returned (.tuple #[.pointer (some ⟨g, 0, none⟩), .pointer (some ⟨r, 0, none⟩)]) ∧ Grown W w' g r 6 100 := by
  have HA := Lib.hid h
  have HL := Lib.hid hl
  have HNW := Lib.hid (New_good W 6 (by unfold newOk; omega))
  clear h hl
  go_enter Try.func13, Try.ntmps13
  go_upto_region 2 with (go_at_call 8; refine HNW.out.mono ?_; rintro e' w1 ⟨g, T, rfl, hb, ht, hd⟩; have HB1 := Lib.hid hb; have HT1 := Lib.hid ht; have HD1 := Lib.hid hd; clear hb ht hd)
  have hnr := new_ref (W := w1) (n := 6) (by decide)
  have hb2 := Below.alloc (Below.refl w1.heap.size w1) (Nat.le_refl _) (Obj.cells #[.int .i64 (6 : Nat), .slice none 0 0, .int .i64 0, .int .i64 0, .bool false] 31 (0, 0))
  have hd2 := HD1.out.grow hb2 (fun _ h => h) (HD1.out.ter.on hb2.size)
  have hap : Apart T (fun k => k = w1.heap.size) := fun k ht e => by subst e; exact Nat.lt_irrefl _ (HD1.out.ter _ ht)
  obtain ⟨u, hu⟩ : ∃ u, w1.alloc (Obj.cells #[.int .i64 6, .slice none 0 0, .int .i64 0, .int .i64 0, .bool false] 31 (0, 0)) = u := ⟨_, rfl⟩
  have hu' : w1.alloc (Obj.cells #[.int .i64 (6 : Nat), .slice none 0 0, .int .i64 0, .int .i64 0, .bool false] 31 (0, 0)) = u := hu
  obtain ⟨r, hr⟩ : ∃ r, w1.heap.size = r := ⟨_, rfl⟩
  rw [hu'] at hnr hb2 hd2
  have HG : Hid (Grown W u g r 6 0) := Lib.hid ⟨HB1.out.trans (hb2.mono HB1.out.size), T, fun k => k = w1.heap.size, ⟨6, [], 0, 0, false⟩, HT1.out, fun k e => by have := HB1.out.size; omega, ⟨hd2, hr ▸ hnr, hap⟩, Nat.le_refl _, rfl⟩
  clear hu' hnr hb2 hd2 hap
  have HLV := Lib.hid (show l.length ≤ 9223372036854775807 from HL.out)
  go_wp2_with fail
  go_loopg [7] 100 (fun m i wr => ∃ k : Nat, i = .int .i64 k ∧ k ≤ 100 ∧ k ≤ l.length ∧ m = 100 - k ∧ Hid (Grown W wr g r 6 k))
  case atStart => exact ⟨0, rfl, Nat.zero_le _, Nat.zero_le _, rfl, HG⟩
  case round =>
    obtain ⟨k, rfl, hk, hkl, rfl, HR⟩ := hrel
    have HKK := Lib.hid hk
    by_cases h1 : k < l.length
    · have h1' : (k : Int) < (l.length : Int) := by omega
      have h0' : (0 : Int) ≤ (k : Int) := by omega
      by_cases h2 : k < 100
      · have h2' : (k : Int) < 100 := by omega
        obtain ⟨hbw, T1, R1, st, hT, hR, hbt, hll, hsz⟩ := HR.out
        obtain ⟨b, o, rfl, hlt, hok, c0, c1, c2, c3, c4⟩ := act_at (HA.out.on hbw) h1
        have HAC := Lib.hid (act_any hbt (by omega) (by omega) l[k] hok)
        generalize l[k] = a at *
        obtain ⟨kd, ps, fl, od, mk⟩ := a
        have HST : Hid (∀ w2, BothTo wr w2 T1 R1 (actS st ⟨kd, ps, fl, od, mk⟩) (actS st ⟨kd, ps, fl, od, mk⟩) g r → Grown W w2 g r 6 (k + 1)) := Lib.hid fun w2 h => Grown.step hbw hT hR h (by have := actS_len st ⟨kd, ps, fl, od, mk⟩; omega) ((actS_sz _ _).trans hsz)
        have HLT := Lib.hid h2
        have HL1 := Lib.hid h1
        clear hbw hT hR hbt hll hsz hlt hok
        dsimp only at c0 c1 c2 c3 c4 HAC
        go_wp2_with (go_at_call 11; refine HAC.out.mono ?_; rintro e' w2 ⟨bb, rfl, -, hw2⟩; have HG2 := Lib.hid (HST.out w2 hw2); clear hw2)
        go_roundg (100 - (k + 1))
        case measure => have := HLT.out; omega
        case rel => exact ⟨k + 1, by go_num, by have := HLT.out; omega, by have := HL1.out; omega, rfl, HG2⟩
      · have h2' : ¬ (k : Int) < 100 := by omega
        have hk100 : k = 100 := by omega
        have HR2 : Hid (Grown W wr g r 6 100) := hk100 ▸ HR
        clear hk100
        go_wp2_with fail
        go_ret2
        exact ⟨g, r, rfl, HR2.out⟩
    · have h1' : ¬ (k : Int) < (l.length : Int) := by omega
      have HR2 : Hid (Grown W wr g r 6 100) := Lib.hid (by
        obtain ⟨hb, T1, R1, st, hT, hR, hbt, hll, hsz⟩ := HR.out
        exact ⟨hb, T1, R1, st, hT, hR, hbt, by omega, hsz⟩)
      go_wp2_with fail
      go_ret2
      exact ⟨g, r, rfl, HR2.out⟩
end Go.Proofs.Ytngfffbnofejmaa
