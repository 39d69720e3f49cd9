/- Law PagerRefuses: the walk. -/
import Derived.Test.YtfjiceoagenfnaaDoorPAns
set_option maxRecDepth 20000
namespace Go.Proofs.YtfjiceoagenfnaaDoor
open Go.RowKit Go.Lib Go.ChangeMaps Go.MapKept

section
variable {W0 W : World} {st : DS} {ps : PS} {gd g gs : Nat}
theorem Rn.use1 (h : Rn W0 W st ps gd g gs) (ho : st.out = false) (i : Int) :
    Calls Tryd.prog 18 #[.pointer (some ⟨g, 0, none⟩), .slice (some ⟨W.heap.size, 0, none⟩) 1 1] (W.alloc (Obj.cells #[.int .i64 i] 3 (0, 0))) fun e w' => e = .returned (.int .i64 (fltE [i] st.sz)) ∧ Rn W0 w' st { ps with ts := turnT useC ps.ts [i] st.sz } gd g gs := by
  have hb := Below.alloc (Below.refl W.heap.size W) (Nat.le_refl _) (Obj.cells #[.int .i64 i] 3 (0, 0))
  obtain ⟨T, hT, hB⟩ := h.bo
  have hl := hB.lt
  exact (h.grow hb).call (φ := fun e => e = .returned (.int .i64 (fltE [i] st.sz))) (fun T hB hT => Use_any (l := [i]) (c := 1) hB ho (IntsAt.one i) (by rw [List.length_singleton]; decide) (fun ad e => by cases e; exact ⟨by rw [al_size]; exact Nat.lt_succ_self _, by show W.heap.size ≠ g; omega, by show W.heap.size ≠ gs; omega⟩))
theorem Rn.free1 (h : Rn W0 W st ps gd g gs) (ho : st.out = false) (i : Int) :
    Calls Tryd.prog 13 #[.pointer (some ⟨g, 0, none⟩), .slice (some ⟨W.heap.size, 0, none⟩) 1 1] (W.alloc (Obj.cells #[.int .i64 i] 3 (0, 0))) fun e w' => e = .returned (.int .i64 (fltE [i] st.sz)) ∧ Rn W0 w' st { ps with ts := turnT relC ps.ts [i] st.sz } gd g gs := by
  have hb := Below.alloc (Below.refl W.heap.size W) (Nat.le_refl _) (Obj.cells #[.int .i64 i] 3 (0, 0))
  obtain ⟨T, hT, hB⟩ := h.bo
  have hl := hB.lt
  exact (h.grow hb).call (φ := fun e => e = .returned (.int .i64 (fltE [i] st.sz))) (fun T hB hT => Free_any (l := [i]) (c := 1) hB ho (IntsAt.one i) (by rw [List.length_singleton]; decide) (fun ad e => by cases e; exact ⟨by rw [al_size]; exact Nat.lt_succ_self _, by show W.heap.size ≠ g; omega, by show W.heap.size ≠ gs; omega⟩))
end
theorem turn_bad {f : Nat → Nat} {ts : List Nat} {i : Int} {n : Nat} (h : isPgB i n = false) : fltE [i] n = 1 ∧ turnT f ts [i] n = ts := by
  have e : fltE [i] n = 1 := by rw [fltE_one, if_neg (by rw [h]; decide)]
  exact ⟨e, if_neg (fun e2 => by rw [e] at e2; cases e2)⟩
theorem turn_good {f : Nat → Nat} {ts : List Nat} {i n : Nat} (h : isPgB i n = true) : fltE [(i : Int)] n = 0 ∧ turnT f ts [(i : Int)] n = ts.set i (f (ts.getD i 0)) := by
  have e : fltE [(i : Int)] n = 0 := by rw [fltE_one, if_pos h]
  exact ⟨e, (if_pos e).trans (turnL_one f ts i)⟩

set_option maxHeartbeats 8000000 in
theorem refuses_page_neg {W : World} (hE : Env W) (k : Nat) (hk2 : 2 ≤ k) (hk : k < 10) (z : Int) (hz : ¬ 0 < z) :
    Calls Tryd.prog 6 #[.int .i64 (k : Int), .int .i64 z] W fun e w' => e = .returned (.bool true) ∧ Below W.heap.size W w' := by
  have HE := Lib.hid hE
  have HN := Lib.hid (New_good W 10 (by unfold newOk; omega))
  clear hE
  have hpg : isPgB (k : Int) ((10 : Nat) : Int) = true := isPgB_t hk2 hk
  have hU := @turn_good useC (List.replicate 10 0) k 10 hpg
  have hV := @turn_good relC ((List.replicate 10 0).set k 3) k 10 hpg
  rw [rep_get] at hU
  rw [get_set (by rw [List.length_replicate]; exact hk)] at hV
  have hmb : mayB (((List.replicate 10 0).set k 3).set k 4) (k : Int) 10 = false := by
    unfold mayB
    rw [hpg, Int.toNat_natCast, get_set (by rw [List.length_set, List.length_replicate]; exact hk)]; rfl
  have HPG := Lib.hid hpg
  have HUU := Lib.hid hU
  have HVV := Lib.hid hV
  have HMB := Lib.hid hmb
  have k2 : (2 : Int) ≤ (k : Int) := by omega
  have k10 : (k : Int) < 10 := by omega
  have k0 : ((k : Int) == 0) = false := by rw [beq_eq_false_iff_ne]; omega
  have k0' : ((k : Int) != 0) = true := by rw [bne_iff_ne]; omega
  have k0'' : (k : Int) ≠ 0 := by omega
  have HK0 := Lib.hid k0''
  clear hpg hU hV hmb hk2 hk k0''
  go_enter Tryd.func6, Tryd.ntmps6
  go_upto_region 9 with (first | (go_at_call 7; refine HN.out.mono ?_; rintro e' w1 ⟨gd, T, rfl, hb, hT, hd⟩; have HO := Lib.hid (Open_new HE.out hb hT hd (by decide)); clear hb hT hd) | (go_at_call 8; refine HO.out.mono ?_; rintro e' w2 ⟨g, gs, rfl, hr⟩; have HR := Lib.hid hr; have HAN := Lib.hid (answersP_any (hr.env HE.out)); clear hr) | (go_at_call 9; refine HAN.out.mono ?_; rintro e' w3 ⟨rfl, hb3⟩; have HR3 := Lib.hid (HR.out.grow hb3); have HU := Lib.hid (HR3.out.use1 rfl (k : Int)); clear hb3) | (go_at_call 18; refine HU.out.mono ?_; rintro e' w4 ⟨rfl, hr4⟩; (try dsimp only at hr4); rw [show fltE [(k : Int)] (newD 10).sz = 0 from HUU.out.1]; rw [show turnT useC (List.replicate 10 0) [(k : Int)] (newD 10).sz = (List.replicate 10 0).set k 3 from HUU.out.2] at hr4; have HR4 := Lib.hid hr4; have HV := Lib.hid (hr4.free1 rfl (k : Int)); clear hr4) | (go_at_call 13; refine HV.out.mono ?_; rintro e' w5 ⟨rfl, hr5⟩; (try dsimp only at hr5); rw [show fltE [(k : Int)] (newD 10).sz = 0 from HVV.out.1]; rw [show turnT relC ((List.replicate 10 0).set k 3) [(k : Int)] (newD 10).sz = ((List.replicate 10 0).set k 3).set k 4 from HVV.out.2] at hr5; have HR5 := Lib.hid hr5; obtain ⟨T6, hT6, hB6⟩ := hr5.bo; have HB6 := Lib.hid hB6; have HFL := Lib.hid (Flip_bad hB6 rfl (k : Int) HK0.out HMB.out); clear hr5 hT6 hB6) | (go_at_call 15; refine HFL.out.mono ?_; rintro e' w6 ⟨rfl, hwz⟩; have hwz := hwz.symm; subst hwz; have HRD := Lib.hid (ReadP_page (HR5.out.env HE.out) HB6.out rfl k HPG.out)) | (go_at_call 17; refine HRD.out.mono ?_; rintro e' w7 ⟨v7, rfl, hv7⟩; have HR7 := Lib.hid (HR5.out.grow hv7.1); clear hv7))
  have hmk := (made_bytes w7 506 (by decide)).1
  have hmr := (made_bytes w7 506 (by decide)).2
  obtain ⟨w8, hw8⟩ : ∃ u, w7.alloc (.cells (madeCells #[.int .u8 0] 506) 5) = u := ⟨_, rfl⟩
  rw [hw8] at hmk hmr
  have hmk' : (Instr.makeSlice 34 (.int .i64 506) (.int .i64 506)).run Tryd.prog w7 = .ok (.slice (some ⟨w7.heap.size, 0, none⟩) 506 506) w8 := hmk
  obtain ⟨A8, c8, ev8, hB8, -⟩ := hmr.at
  have hr8 := HR7.out.grow hmr.1
  obtain ⟨T8, hT8, hb8⟩ := hr8.bo
  have hNL := New_large (hr8.env HE.out) hb8 rfl (A := some ⟨w7.heap.size, 0, none⟩) (c := 506) (d := List.replicate 506 0) (by
    have e1 := (Value.slice.inj ev8).1
    rw [← e1] at hB8
    exact hB8) (fun e => by cases e) (by rw [List.length_replicate]; decide)
  rw [List.length_replicate] at hNL
  have HNL := Lib.hid hNL
  have HR8 := Lib.hid hr8
  have HON := Lib.hid (fun W => OpenP_nil W)
  have HN2 := Lib.hid (fun W => New_good W 1 (by unfold newOk; omega))
  clear hmr hmk ev8 hB8 hr8 hT8 hb8 hNL hw8
  go_upto_region 22 with (first | (go_at_call 10; refine HNL.out.mono ?_; rintro e' w9 ⟨rfl, hb9⟩; have HR9 := Lib.hid (HR8.out.grow hb9); clear hb9) | (go_at_call 8; (with_reducible refine (HON.out _).mono ?_); rintro e' wz ⟨rfl, hwz⟩; have hwz := hwz.symm; subst hwz) | (go_at_call 7; refine (HN2.out _).mono ?_; rintro e' wn ⟨gdx, Tx, rfl, hb, hT, hd⟩; have HE2 := Lib.hid (HR9.out.env HE.out); have HO2 := Lib.hid (OpenP_small hd (by decide)); have HB9 := Lib.hid hb; clear hb hT hd) | (go_at_call 8; refine HO2.out.mono ?_; rintro e' wz ⟨rfl, hwz⟩; have hwz := hwz.symm; subst hwz))
  have HBA := Lib.hid (HR9.out.1.trans (HB9.out.mono HR9.out.1.size))
  have HQ1 := Lib.hid (fun W => Read_nil W 2)
  have HQ2 := Lib.hid (fun W => New_nil W none 0 0)
  have HQ3 := Lib.hid (fun W => Root_nil W)
  have HQ4 := Lib.hid (fun W A => Use_nil W A 1 1)
  have HQ5 := Lib.hid (fun W A => Free_nil W A 1 1)
  have HQ6 := Lib.hid (fun W => Flip_nil W 0)
  have HQ7 := Lib.hid (fun W => Room_nil W)
  go_wp2_with (first | (go_at_call 17; refine (HQ1.out _).mono ?_; rintro e' wq ⟨rfl, hbq⟩; have HBQ := Lib.hid hbq; clear hbq) | (go_at_call 10; refine (HQ2.out _).mono ?_; rintro e' wz ⟨rfl, hwz⟩; have hwz := hwz.symm; subst hwz) | (go_at_call 20; refine (HQ3.out _).mono ?_; rintro e' wz ⟨rfl, hwz⟩; have hwz := hwz.symm; subst hwz) | (go_at_call 18; refine (HQ4.out _ _).mono ?_; rintro e' wz ⟨rfl, hwz⟩; have hwz := hwz.symm; subst hwz) | (go_at_call 13; refine (HQ5.out _ _).mono ?_; rintro e' wz ⟨rfl, hwz⟩; have hwz := hwz.symm; subst hwz) | (go_at_call 15; refine (HQ6.out _).mono ?_; rintro e' wz ⟨rfl, hwz⟩; have hwz := hwz.symm; subst hwz) | (go_at_call 11; refine (HQ7.out _).mono ?_; rintro e' wz ⟨rfl, hwz⟩; have hwz := hwz.symm; subst hwz))
  go_ret
  have hbq := HBA.out.trans (HBQ.out.mono HBA.out.size)
  exact ⟨rfl, (hbq.alloc hbq.size _).alloc (Nat.le_trans hbq.size (by simp)) _⟩

set_option maxHeartbeats 8000000 in
theorem refuses_page_few {W : World} (hE : Env W) (k : Nat) (hk2 : 2 ≤ k) (hk : k < 10) (z : Int) (hz : 0 < z) (m : Nat) (hm : z.tmod 6 = m) (hm4 : m + 1 < 4) :
    Calls Tryd.prog 6 #[.int .i64 (k : Int), .int .i64 z] W fun e w' => e = .returned (.bool true) ∧ Below W.heap.size W w' := by
  have HE := Lib.hid hE
  have HN := Lib.hid (New_good W 10 (by unfold newOk; omega))
  clear hE
  have hpg : isPgB (k : Int) ((10 : Nat) : Int) = true := isPgB_t hk2 hk
  have hU := @turn_good useC (List.replicate 10 0) k 10 hpg
  have hV := @turn_good relC ((List.replicate 10 0).set k 3) k 10 hpg
  rw [rep_get] at hU
  rw [get_set (by rw [List.length_replicate]; exact hk)] at hV
  have hmb : mayB (((List.replicate 10 0).set k 3).set k 4) (k : Int) 10 = false := by
    unfold mayB
    rw [hpg, Int.toNat_natCast, get_set (by rw [List.length_set, List.length_replicate]; exact hk)]; rfl
  have HPG := Lib.hid hpg
  have HUU := Lib.hid hU
  have HVV := Lib.hid hV
  have HMB := Lib.hid hmb
  have k2 : (2 : Int) ≤ (k : Int) := by omega
  have k10 : (k : Int) < 10 := by omega
  have k0 : ((k : Int) == 0) = false := by rw [beq_eq_false_iff_ne]; omega
  have k0' : ((k : Int) != 0) = true := by rw [bne_iff_ne]; omega
  have k0'' : (k : Int) ≠ 0 := by omega
  have HK0 := Lib.hid k0''
  clear hpg hU hV hmb hk2 hk k0''
  have wm : IntKind.i64.wrap ((m : Nat) : Int) = ((m : Nat) : Int) := wrap_in (by omega) (by omega)
  have wm1 : IntKind.i64.wrap ((m : Int) + 1) = (m : Int) + 1 := wrap_in (by omega) (by omega)
  have m4 : (m : Int) + 1 < 4 := by omega
  have m4' : ¬ (4 : Int) ≤ (m : Int) + 1 := by omega
  have HM := Lib.hid hm4
  clear hm4
  go_enter Tryd.func6, Tryd.ntmps6
  go_upto_region 9 with (first | (go_at_call 7; refine HN.out.mono ?_; rintro e' w1 ⟨gd, T, rfl, hb, hT, hd⟩; have HO := Lib.hid (Open_new HE.out hb hT hd (by decide)); clear hb hT hd) | (go_at_call 8; refine HO.out.mono ?_; rintro e' w2 ⟨g, gs, rfl, hr⟩; have HR := Lib.hid hr; have HAN := Lib.hid (answersP_any (hr.env HE.out)); clear hr) | (go_at_call 9; refine HAN.out.mono ?_; rintro e' w3 ⟨rfl, hb3⟩; have HR3 := Lib.hid (HR.out.grow hb3); have HU := Lib.hid (HR3.out.use1 rfl (k : Int)); clear hb3) | (go_at_call 18; refine HU.out.mono ?_; rintro e' w4 ⟨rfl, hr4⟩; (try dsimp only at hr4); rw [show fltE [(k : Int)] (newD 10).sz = 0 from HUU.out.1]; rw [show turnT useC (List.replicate 10 0) [(k : Int)] (newD 10).sz = (List.replicate 10 0).set k 3 from HUU.out.2] at hr4; have HR4 := Lib.hid hr4; have HV := Lib.hid (hr4.free1 rfl (k : Int)); clear hr4) | (go_at_call 13; refine HV.out.mono ?_; rintro e' w5 ⟨rfl, hr5⟩; (try dsimp only at hr5); rw [show fltE [(k : Int)] (newD 10).sz = 0 from HVV.out.1]; rw [show turnT relC ((List.replicate 10 0).set k 3) [(k : Int)] (newD 10).sz = ((List.replicate 10 0).set k 3).set k 4 from HVV.out.2] at hr5; have HR5 := Lib.hid hr5; obtain ⟨T6, hT6, hB6⟩ := hr5.bo; have HB6 := Lib.hid hB6; have HFL := Lib.hid (Flip_bad hB6 rfl (k : Int) HK0.out HMB.out); clear hr5 hT6 hB6) | (go_at_call 15; refine HFL.out.mono ?_; rintro e' w6 ⟨rfl, hwz⟩; have hwz := hwz.symm; subst hwz; have HRD := Lib.hid (ReadP_page (HR5.out.env HE.out) HB6.out rfl k HPG.out)) | (go_at_call 17; refine HRD.out.mono ?_; rintro e' w7 ⟨v7, rfl, hv7⟩; have HR7 := Lib.hid (HR5.out.grow hv7.1); clear hv7))
  have hmk := (made_bytes w7 506 (by decide)).1
  have hmr := (made_bytes w7 506 (by decide)).2
  obtain ⟨w8, hw8⟩ : ∃ u, w7.alloc (.cells (madeCells #[.int .u8 0] 506) 5) = u := ⟨_, rfl⟩
  rw [hw8] at hmk hmr
  have hmk' : (Instr.makeSlice 34 (.int .i64 506) (.int .i64 506)).run Tryd.prog w7 = .ok (.slice (some ⟨w7.heap.size, 0, none⟩) 506 506) w8 := hmk
  obtain ⟨A8, c8, ev8, hB8, -⟩ := hmr.at
  have hr8 := HR7.out.grow hmr.1
  obtain ⟨T8, hT8, hb8⟩ := hr8.bo
  have hNL := New_large (hr8.env HE.out) hb8 rfl (A := some ⟨w7.heap.size, 0, none⟩) (c := 506) (d := List.replicate 506 0) (by
    have e1 := (Value.slice.inj ev8).1
    rw [← e1] at hB8
    exact hB8) (fun e => by cases e) (by rw [List.length_replicate]; decide)
  rw [List.length_replicate] at hNL
  have HNL := Lib.hid hNL
  have HR8 := Lib.hid hr8
  have HON := Lib.hid (fun W => OpenP_nil W)
  have HN2 := Lib.hid (fun W => New_good W (m + 1) (by have := HM.out; unfold newOk; omega))
  clear hmr hmk ev8 hB8 hr8 hT8 hb8 hNL hw8
  go_upto_region 22 with (first | (go_at_call 10; refine HNL.out.mono ?_; rintro e' w9 ⟨rfl, hb9⟩; have HR9 := Lib.hid (HR8.out.grow hb9); clear hb9) | (go_at_call 8; (with_reducible refine (HON.out _).mono ?_); rintro e' wz ⟨rfl, hwz⟩; have hwz := hwz.symm; subst hwz) | (go_at_call 7; refine (HN2.out _).mono ?_; rintro e' wn ⟨gdx, Tx, rfl, hb, hT, hd⟩; have HE2 := Lib.hid (HR9.out.env HE.out); have HO2 := Lib.hid (OpenP_small hd HM.out); have HB9 := Lib.hid hb; clear hb hT hd) | (go_at_call 8; refine HO2.out.mono ?_; rintro e' wz ⟨rfl, hwz⟩; have hwz := hwz.symm; subst hwz))
  have HBA := Lib.hid (HR9.out.1.trans (HB9.out.mono HR9.out.1.size))
  have HQ1 := Lib.hid (fun W => Read_nil W 2)
  have HQ2 := Lib.hid (fun W => New_nil W none 0 0)
  have HQ3 := Lib.hid (fun W => Root_nil W)
  have HQ4 := Lib.hid (fun W A => Use_nil W A 1 1)
  have HQ5 := Lib.hid (fun W A => Free_nil W A 1 1)
  have HQ6 := Lib.hid (fun W => Flip_nil W 0)
  have HQ7 := Lib.hid (fun W => Room_nil W)
  go_wp2_with (first | (go_at_call 17; refine (HQ1.out _).mono ?_; rintro e' wq ⟨rfl, hbq⟩; have HBQ := Lib.hid hbq; clear hbq) | (go_at_call 10; refine (HQ2.out _).mono ?_; rintro e' wz ⟨rfl, hwz⟩; have hwz := hwz.symm; subst hwz) | (go_at_call 20; refine (HQ3.out _).mono ?_; rintro e' wz ⟨rfl, hwz⟩; have hwz := hwz.symm; subst hwz) | (go_at_call 18; refine (HQ4.out _ _).mono ?_; rintro e' wz ⟨rfl, hwz⟩; have hwz := hwz.symm; subst hwz) | (go_at_call 13; refine (HQ5.out _ _).mono ?_; rintro e' wz ⟨rfl, hwz⟩; have hwz := hwz.symm; subst hwz) | (go_at_call 15; refine (HQ6.out _).mono ?_; rintro e' wz ⟨rfl, hwz⟩; have hwz := hwz.symm; subst hwz) | (go_at_call 11; refine (HQ7.out _).mono ?_; rintro e' wz ⟨rfl, hwz⟩; have hwz := hwz.symm; subst hwz))
  go_ret
  have hbq := HBA.out.trans (HBQ.out.mono HBA.out.size)
  exact ⟨rfl, (hbq.alloc hbq.size _).alloc (Nat.le_trans hbq.size (by simp)) _⟩

set_option maxHeartbeats 8000000 in
theorem refuses_page_many {W : World} (hE : Env W) (k : Nat) (hk2 : 2 ≤ k) (hk : k < 10) (z : Int) (hz : 0 < z) (m : Nat) (hm : z.tmod 6 = m) (hm4 : 4 ≤ m + 1) (hm6 : m + 1 ≤ 6) :
    Calls Tryd.prog 6 #[.int .i64 (k : Int), .int .i64 z] W fun e w' => e = .returned (.bool true) ∧ Below W.heap.size W w' := by
  have HE := Lib.hid hE
  have HN := Lib.hid (New_good W 10 (by unfold newOk; omega))
  clear hE
  have hpg : isPgB (k : Int) ((10 : Nat) : Int) = true := isPgB_t hk2 hk
  have hU := @turn_good useC (List.replicate 10 0) k 10 hpg
  have hV := @turn_good relC ((List.replicate 10 0).set k 3) k 10 hpg
  rw [rep_get] at hU
  rw [get_set (by rw [List.length_replicate]; exact hk)] at hV
  have hmb : mayB (((List.replicate 10 0).set k 3).set k 4) (k : Int) 10 = false := by
    unfold mayB
    rw [hpg, Int.toNat_natCast, get_set (by rw [List.length_set, List.length_replicate]; exact hk)]; rfl
  have HPG := Lib.hid hpg
  have HUU := Lib.hid hU
  have HVV := Lib.hid hV
  have HMB := Lib.hid hmb
  have k2 : (2 : Int) ≤ (k : Int) := by omega
  have k10 : (k : Int) < 10 := by omega
  have k0 : ((k : Int) == 0) = false := by rw [beq_eq_false_iff_ne]; omega
  have k0' : ((k : Int) != 0) = true := by rw [bne_iff_ne]; omega
  have k0'' : (k : Int) ≠ 0 := by omega
  have HK0 := Lib.hid k0''
  clear hpg hU hV hmb hk2 hk k0''
  have wm : IntKind.i64.wrap ((m : Nat) : Int) = ((m : Nat) : Int) := wrap_in (by omega) (by omega)
  have wm1 : IntKind.i64.wrap ((m : Int) + 1) = (m : Int) + 1 := wrap_in (by omega) (by omega)
  have m4 : ¬ (m : Int) + 1 < 4 := by omega
  have m4' : (4 : Int) ≤ (m : Int) + 1 := by omega
  have HM := Lib.hid (And.intro hm4 hm6)
  clear hm4 hm6
  go_enter Tryd.func6, Tryd.ntmps6
  go_upto_region 9 with (first | (go_at_call 7; refine HN.out.mono ?_; rintro e' w1 ⟨gd, T, rfl, hb, hT, hd⟩; have HO := Lib.hid (Open_new HE.out hb hT hd (by decide)); clear hb hT hd) | (go_at_call 8; refine HO.out.mono ?_; rintro e' w2 ⟨g, gs, rfl, hr⟩; have HR := Lib.hid hr; have HAN := Lib.hid (answersP_any (hr.env HE.out)); clear hr) | (go_at_call 9; refine HAN.out.mono ?_; rintro e' w3 ⟨rfl, hb3⟩; have HR3 := Lib.hid (HR.out.grow hb3); have HU := Lib.hid (HR3.out.use1 rfl (k : Int)); clear hb3) | (go_at_call 18; refine HU.out.mono ?_; rintro e' w4 ⟨rfl, hr4⟩; (try dsimp only at hr4); rw [show fltE [(k : Int)] (newD 10).sz = 0 from HUU.out.1]; rw [show turnT useC (List.replicate 10 0) [(k : Int)] (newD 10).sz = (List.replicate 10 0).set k 3 from HUU.out.2] at hr4; have HR4 := Lib.hid hr4; have HV := Lib.hid (hr4.free1 rfl (k : Int)); clear hr4) | (go_at_call 13; refine HV.out.mono ?_; rintro e' w5 ⟨rfl, hr5⟩; (try dsimp only at hr5); rw [show fltE [(k : Int)] (newD 10).sz = 0 from HVV.out.1]; rw [show turnT relC ((List.replicate 10 0).set k 3) [(k : Int)] (newD 10).sz = ((List.replicate 10 0).set k 3).set k 4 from HVV.out.2] at hr5; have HR5 := Lib.hid hr5; obtain ⟨T6, hT6, hB6⟩ := hr5.bo; have HB6 := Lib.hid hB6; have HFL := Lib.hid (Flip_bad hB6 rfl (k : Int) HK0.out HMB.out); clear hr5 hT6 hB6) | (go_at_call 15; refine HFL.out.mono ?_; rintro e' w6 ⟨rfl, hwz⟩; have hwz := hwz.symm; subst hwz; have HRD := Lib.hid (ReadP_page (HR5.out.env HE.out) HB6.out rfl k HPG.out)) | (go_at_call 17; refine HRD.out.mono ?_; rintro e' w7 ⟨v7, rfl, hv7⟩; have HR7 := Lib.hid (HR5.out.grow hv7.1); clear hv7))
  have hmk := (made_bytes w7 506 (by decide)).1
  have hmr := (made_bytes w7 506 (by decide)).2
  obtain ⟨w8, hw8⟩ : ∃ u, w7.alloc (.cells (madeCells #[.int .u8 0] 506) 5) = u := ⟨_, rfl⟩
  rw [hw8] at hmk hmr
  have hmk' : (Instr.makeSlice 34 (.int .i64 506) (.int .i64 506)).run Tryd.prog w7 = .ok (.slice (some ⟨w7.heap.size, 0, none⟩) 506 506) w8 := hmk
  obtain ⟨A8, c8, ev8, hB8, -⟩ := hmr.at
  have hr8 := HR7.out.grow hmr.1
  obtain ⟨T8, hT8, hb8⟩ := hr8.bo
  have hNL := New_large (hr8.env HE.out) hb8 rfl (A := some ⟨w7.heap.size, 0, none⟩) (c := 506) (d := List.replicate 506 0) (by
    have e1 := (Value.slice.inj ev8).1
    rw [← e1] at hB8
    exact hB8) (fun e => by cases e) (by rw [List.length_replicate]; decide)
  rw [List.length_replicate] at hNL
  have HNL := Lib.hid hNL
  have HR8 := Lib.hid hr8
  have HON := Lib.hid (fun W => OpenP_nil W)
  have HN2 := Lib.hid (fun W => New_good W (m + 1) (by have := HM.out; unfold newOk; omega))
  clear hmr hmk ev8 hB8 hr8 hT8 hb8 hNL hw8
  go_upto_region 22 with (first | (go_at_call 10; refine HNL.out.mono ?_; rintro e' w9 ⟨rfl, hb9⟩; have HR9 := Lib.hid (HR8.out.grow hb9); clear hb9) | (go_at_call 8; (with_reducible refine (HON.out _).mono ?_); rintro e' wz ⟨rfl, hwz⟩; have hwz := hwz.symm; subst hwz) | (go_at_call 7; refine (HN2.out _).mono ?_; rintro e' wn ⟨gdx, Tx, rfl, hb, hT, hd⟩; have HE2 := Lib.hid (HR9.out.env HE.out); have HO2 := Lib.hid (Open_new HE2.out hb hT hd HM.out.1); have HB9 := Lib.hid hb; clear hb hT hd) | (go_at_call 8; refine HO2.out.mono ?_; rintro e' wo ⟨gx, gsx, rfl, hrx⟩; have HBZ := Lib.hid hrx.1; clear hrx))
  have HBA := Lib.hid (HR9.out.1.trans (HBZ.out.mono HR9.out.1.size))
  have HQ1 := Lib.hid (fun W => Read_nil W 2)
  have HQ2 := Lib.hid (fun W => New_nil W none 0 0)
  have HQ3 := Lib.hid (fun W => Root_nil W)
  have HQ4 := Lib.hid (fun W A => Use_nil W A 1 1)
  have HQ5 := Lib.hid (fun W A => Free_nil W A 1 1)
  have HQ6 := Lib.hid (fun W => Flip_nil W 0)
  have HQ7 := Lib.hid (fun W => Room_nil W)
  go_wp2_with (first | (go_at_call 17; refine (HQ1.out _).mono ?_; rintro e' wq ⟨rfl, hbq⟩; have HBQ := Lib.hid hbq; clear hbq) | (go_at_call 10; refine (HQ2.out _).mono ?_; rintro e' wz ⟨rfl, hwz⟩; have hwz := hwz.symm; subst hwz) | (go_at_call 20; refine (HQ3.out _).mono ?_; rintro e' wz ⟨rfl, hwz⟩; have hwz := hwz.symm; subst hwz) | (go_at_call 18; refine (HQ4.out _ _).mono ?_; rintro e' wz ⟨rfl, hwz⟩; have hwz := hwz.symm; subst hwz) | (go_at_call 13; refine (HQ5.out _ _).mono ?_; rintro e' wz ⟨rfl, hwz⟩; have hwz := hwz.symm; subst hwz) | (go_at_call 15; refine (HQ6.out _).mono ?_; rintro e' wz ⟨rfl, hwz⟩; have hwz := hwz.symm; subst hwz) | (go_at_call 11; refine (HQ7.out _).mono ?_; rintro e' wz ⟨rfl, hwz⟩; have hwz := hwz.symm; subst hwz))
  go_ret
  have hbq := HBA.out.trans (HBQ.out.mono HBA.out.size)
  exact ⟨rfl, (hbq.alloc hbq.size _).alloc (Nat.le_trans hbq.size (by simp)) _⟩

set_option maxHeartbeats 8000000 in
theorem refuses_zero_neg {W : World} (hE : Env W) (z : Int) (hz : ¬ 0 < z) :
    Calls Tryd.prog 6 #[.int .i64 0, .int .i64 z] W fun e w' => e = .returned (.bool true) ∧ Below W.heap.size W w' := by
  have HE := Lib.hid hE
  have HN := Lib.hid (New_good W 10 (by unfold newOk; omega))
  clear hE
  have hpg : isPgB 0 ((10 : Nat) : Int) = false := by decide
  have HUU := Lib.hid (@turn_bad useC (List.replicate 10 0) 0 10 hpg)
  have HVV := Lib.hid (@turn_bad relC (List.replicate 10 0) 0 10 hpg)
  have HPG := Lib.hid hpg
  clear hpg
  go_enter Tryd.func6, Tryd.ntmps6
  go_upto_region 9 with (first | (go_at_call 7; refine HN.out.mono ?_; rintro e' w1 ⟨gd, T, rfl, hb, hT, hd⟩; have HO := Lib.hid (Open_new HE.out hb hT hd (by decide)); clear hb hT hd) | (go_at_call 8; refine HO.out.mono ?_; rintro e' w2 ⟨g, gs, rfl, hr⟩; have HR := Lib.hid hr; have HAN := Lib.hid (answersP_any (hr.env HE.out)); clear hr) | (go_at_call 9; refine HAN.out.mono ?_; rintro e' w3 ⟨rfl, hb3⟩; have HR3 := Lib.hid (HR.out.grow hb3); have HU := Lib.hid (HR3.out.use1 rfl 0); clear hb3) | (go_at_call 18; refine HU.out.mono ?_; rintro e' w4 ⟨rfl, hr4⟩; (try dsimp only at hr4); rw [show fltE [(0 : Int)] (newD 10).sz = 1 from HUU.out.1]; rw [show turnT useC (List.replicate 10 0) [(0 : Int)] (newD 10).sz = List.replicate 10 0 from HUU.out.2] at hr4; have HR4 := Lib.hid hr4; have HV := Lib.hid (hr4.free1 rfl 0); clear hr4) | (go_at_call 13; refine HV.out.mono ?_; rintro e' w5 ⟨rfl, hr5⟩; (try dsimp only at hr5); rw [show fltE [(0 : Int)] (newD 10).sz = 1 from HVV.out.1]; rw [show turnT relC (List.replicate 10 0) [(0 : Int)] (newD 10).sz = List.replicate 10 0 from HVV.out.2] at hr5; have HR5 := Lib.hid hr5; obtain ⟨T6, hT6, hB6⟩ := hr5.bo; have HB6 := Lib.hid hB6; have HFL := Lib.hid (Rn.flip HE.out HR5.out rfl rfl (by decide) (by decide) 0 (by decide) (.inl rfl) (by decide)); clear hr5 hT6 hB6) | (go_at_call 15; refine HFL.out.mono ?_; rintro e' w6 ⟨rfl, hr6⟩; have HR6 := Lib.hid hr6; obtain ⟨T6', hT6', hB6'⟩ := hr6.bo; have HRD := Lib.hid (ReadP_bad hB6' rfl 0 HPG.out); clear hr6 hT6' hB6') | (go_at_call 17; refine HRD.out.mono ?_; rintro e' w7 ⟨rfl, hv7⟩; have HR7 := Lib.hid (HR6.out.grow hv7); clear hv7))
  have hmk := (made_bytes w7 506 (by decide)).1
  have hmr := (made_bytes w7 506 (by decide)).2
  obtain ⟨w8, hw8⟩ : ∃ u, w7.alloc (.cells (madeCells #[.int .u8 0] 506) 5) = u := ⟨_, rfl⟩
  rw [hw8] at hmk hmr
  have hmk' : (Instr.makeSlice 34 (.int .i64 506) (.int .i64 506)).run Tryd.prog w7 = .ok (.slice (some ⟨w7.heap.size, 0, none⟩) 506 506) w8 := hmk
  obtain ⟨A8, c8, ev8, hB8, -⟩ := hmr.at
  have hr8 := HR7.out.grow hmr.1
  obtain ⟨T8, hT8, hb8⟩ := hr8.bo
  have hNL := New_large (hr8.env HE.out) hb8 rfl (A := some ⟨w7.heap.size, 0, none⟩) (c := 506) (d := List.replicate 506 0) (by
    have e1 := (Value.slice.inj ev8).1
    rw [← e1] at hB8
    exact hB8) (fun e => by cases e) (by rw [List.length_replicate]; decide)
  rw [List.length_replicate] at hNL
  have HNL := Lib.hid hNL
  have HR8 := Lib.hid hr8
  have HON := Lib.hid (fun W => OpenP_nil W)
  have HN2 := Lib.hid (fun W => New_good W 1 (by unfold newOk; omega))
  clear hmr hmk ev8 hB8 hr8 hT8 hb8 hNL hw8
  go_upto_region 22 with (first | (go_at_call 10; refine HNL.out.mono ?_; rintro e' w9 ⟨rfl, hb9⟩; have HR9 := Lib.hid (HR8.out.grow hb9); clear hb9) | (go_at_call 8; (with_reducible refine (HON.out _).mono ?_); rintro e' wz ⟨rfl, hwz⟩; have hwz := hwz.symm; subst hwz) | (go_at_call 7; refine (HN2.out _).mono ?_; rintro e' wn ⟨gdx, Tx, rfl, hb, hT, hd⟩; have HE2 := Lib.hid (HR9.out.env HE.out); have HO2 := Lib.hid (OpenP_small hd (by decide)); have HB9 := Lib.hid hb; clear hb hT hd) | (go_at_call 8; refine HO2.out.mono ?_; rintro e' wz ⟨rfl, hwz⟩; have hwz := hwz.symm; subst hwz))
  have HBA := Lib.hid (HR9.out.1.trans (HB9.out.mono HR9.out.1.size))
  have HQ1 := Lib.hid (fun W => Read_nil W 2)
  have HQ2 := Lib.hid (fun W => New_nil W none 0 0)
  have HQ3 := Lib.hid (fun W => Root_nil W)
  have HQ4 := Lib.hid (fun W A => Use_nil W A 1 1)
  have HQ5 := Lib.hid (fun W A => Free_nil W A 1 1)
  have HQ6 := Lib.hid (fun W => Flip_nil W 0)
  have HQ7 := Lib.hid (fun W => Room_nil W)
  go_wp2_with (first | (go_at_call 17; refine (HQ1.out _).mono ?_; rintro e' wq ⟨rfl, hbq⟩; have HBQ := Lib.hid hbq; clear hbq) | (go_at_call 10; refine (HQ2.out _).mono ?_; rintro e' wz ⟨rfl, hwz⟩; have hwz := hwz.symm; subst hwz) | (go_at_call 20; refine (HQ3.out _).mono ?_; rintro e' wz ⟨rfl, hwz⟩; have hwz := hwz.symm; subst hwz) | (go_at_call 18; refine (HQ4.out _ _).mono ?_; rintro e' wz ⟨rfl, hwz⟩; have hwz := hwz.symm; subst hwz) | (go_at_call 13; refine (HQ5.out _ _).mono ?_; rintro e' wz ⟨rfl, hwz⟩; have hwz := hwz.symm; subst hwz) | (go_at_call 15; refine (HQ6.out _).mono ?_; rintro e' wz ⟨rfl, hwz⟩; have hwz := hwz.symm; subst hwz) | (go_at_call 11; refine (HQ7.out _).mono ?_; rintro e' wz ⟨rfl, hwz⟩; have hwz := hwz.symm; subst hwz))
  go_ret
  have hbq := HBA.out.trans (HBQ.out.mono HBA.out.size)
  exact ⟨rfl, (hbq.alloc hbq.size _).alloc (Nat.le_trans hbq.size (by simp)) _⟩

set_option maxHeartbeats 8000000 in
theorem refuses_zero_few {W : World} (hE : Env W) (z : Int) (hz : 0 < z) (m : Nat) (hm : z.tmod 6 = m) (hm4 : m + 1 < 4) :
    Calls Tryd.prog 6 #[.int .i64 0, .int .i64 z] W fun e w' => e = .returned (.bool true) ∧ Below W.heap.size W w' := by
  have HE := Lib.hid hE
  have HN := Lib.hid (New_good W 10 (by unfold newOk; omega))
  clear hE
  have hpg : isPgB 0 ((10 : Nat) : Int) = false := by decide
  have HUU := Lib.hid (@turn_bad useC (List.replicate 10 0) 0 10 hpg)
  have HVV := Lib.hid (@turn_bad relC (List.replicate 10 0) 0 10 hpg)
  have HPG := Lib.hid hpg
  clear hpg
  have wm : IntKind.i64.wrap ((m : Nat) : Int) = ((m : Nat) : Int) := wrap_in (by omega) (by omega)
  have wm1 : IntKind.i64.wrap ((m : Int) + 1) = (m : Int) + 1 := wrap_in (by omega) (by omega)
  have m4 : (m : Int) + 1 < 4 := by omega
  have m4' : ¬ (4 : Int) ≤ (m : Int) + 1 := by omega
  have HM := Lib.hid hm4
  clear hm4
  go_enter Tryd.func6, Tryd.ntmps6
  go_upto_region 9 with (first | (go_at_call 7; refine HN.out.mono ?_; rintro e' w1 ⟨gd, T, rfl, hb, hT, hd⟩; have HO := Lib.hid (Open_new HE.out hb hT hd (by decide)); clear hb hT hd) | (go_at_call 8; refine HO.out.mono ?_; rintro e' w2 ⟨g, gs, rfl, hr⟩; have HR := Lib.hid hr; have HAN := Lib.hid (answersP_any (hr.env HE.out)); clear hr) | (go_at_call 9; refine HAN.out.mono ?_; rintro e' w3 ⟨rfl, hb3⟩; have HR3 := Lib.hid (HR.out.grow hb3); have HU := Lib.hid (HR3.out.use1 rfl 0); clear hb3) | (go_at_call 18; refine HU.out.mono ?_; rintro e' w4 ⟨rfl, hr4⟩; (try dsimp only at hr4); rw [show fltE [(0 : Int)] (newD 10).sz = 1 from HUU.out.1]; rw [show turnT useC (List.replicate 10 0) [(0 : Int)] (newD 10).sz = List.replicate 10 0 from HUU.out.2] at hr4; have HR4 := Lib.hid hr4; have HV := Lib.hid (hr4.free1 rfl 0); clear hr4) | (go_at_call 13; refine HV.out.mono ?_; rintro e' w5 ⟨rfl, hr5⟩; (try dsimp only at hr5); rw [show fltE [(0 : Int)] (newD 10).sz = 1 from HVV.out.1]; rw [show turnT relC (List.replicate 10 0) [(0 : Int)] (newD 10).sz = List.replicate 10 0 from HVV.out.2] at hr5; have HR5 := Lib.hid hr5; obtain ⟨T6, hT6, hB6⟩ := hr5.bo; have HB6 := Lib.hid hB6; have HFL := Lib.hid (Rn.flip HE.out HR5.out rfl rfl (by decide) (by decide) 0 (by decide) (.inl rfl) (by decide)); clear hr5 hT6 hB6) | (go_at_call 15; refine HFL.out.mono ?_; rintro e' w6 ⟨rfl, hr6⟩; have HR6 := Lib.hid hr6; obtain ⟨T6', hT6', hB6'⟩ := hr6.bo; have HRD := Lib.hid (ReadP_bad hB6' rfl 0 HPG.out); clear hr6 hT6' hB6') | (go_at_call 17; refine HRD.out.mono ?_; rintro e' w7 ⟨rfl, hv7⟩; have HR7 := Lib.hid (HR6.out.grow hv7); clear hv7))
  have hmk := (made_bytes w7 506 (by decide)).1
  have hmr := (made_bytes w7 506 (by decide)).2
  obtain ⟨w8, hw8⟩ : ∃ u, w7.alloc (.cells (madeCells #[.int .u8 0] 506) 5) = u := ⟨_, rfl⟩
  rw [hw8] at hmk hmr
  have hmk' : (Instr.makeSlice 34 (.int .i64 506) (.int .i64 506)).run Tryd.prog w7 = .ok (.slice (some ⟨w7.heap.size, 0, none⟩) 506 506) w8 := hmk
  obtain ⟨A8, c8, ev8, hB8, -⟩ := hmr.at
  have hr8 := HR7.out.grow hmr.1
  obtain ⟨T8, hT8, hb8⟩ := hr8.bo
  have hNL := New_large (hr8.env HE.out) hb8 rfl (A := some ⟨w7.heap.size, 0, none⟩) (c := 506) (d := List.replicate 506 0) (by
    have e1 := (Value.slice.inj ev8).1
    rw [← e1] at hB8
    exact hB8) (fun e => by cases e) (by rw [List.length_replicate]; decide)
  rw [List.length_replicate] at hNL
  have HNL := Lib.hid hNL
  have HR8 := Lib.hid hr8
  have HON := Lib.hid (fun W => OpenP_nil W)
  have HN2 := Lib.hid (fun W => New_good W (m + 1) (by have := HM.out; unfold newOk; omega))
  clear hmr hmk ev8 hB8 hr8 hT8 hb8 hNL hw8
  go_upto_region 22 with (first | (go_at_call 10; refine HNL.out.mono ?_; rintro e' w9 ⟨rfl, hb9⟩; have HR9 := Lib.hid (HR8.out.grow hb9); clear hb9) | (go_at_call 8; (with_reducible refine (HON.out _).mono ?_); rintro e' wz ⟨rfl, hwz⟩; have hwz := hwz.symm; subst hwz) | (go_at_call 7; refine (HN2.out _).mono ?_; rintro e' wn ⟨gdx, Tx, rfl, hb, hT, hd⟩; have HE2 := Lib.hid (HR9.out.env HE.out); have HO2 := Lib.hid (OpenP_small hd HM.out); have HB9 := Lib.hid hb; clear hb hT hd) | (go_at_call 8; refine HO2.out.mono ?_; rintro e' wz ⟨rfl, hwz⟩; have hwz := hwz.symm; subst hwz))
  have HBA := Lib.hid (HR9.out.1.trans (HB9.out.mono HR9.out.1.size))
  have HQ1 := Lib.hid (fun W => Read_nil W 2)
  have HQ2 := Lib.hid (fun W => New_nil W none 0 0)
  have HQ3 := Lib.hid (fun W => Root_nil W)
  have HQ4 := Lib.hid (fun W A => Use_nil W A 1 1)
  have HQ5 := Lib.hid (fun W A => Free_nil W A 1 1)
  have HQ6 := Lib.hid (fun W => Flip_nil W 0)
  have HQ7 := Lib.hid (fun W => Room_nil W)
  go_wp2_with (first | (go_at_call 17; refine (HQ1.out _).mono ?_; rintro e' wq ⟨rfl, hbq⟩; have HBQ := Lib.hid hbq; clear hbq) | (go_at_call 10; refine (HQ2.out _).mono ?_; rintro e' wz ⟨rfl, hwz⟩; have hwz := hwz.symm; subst hwz) | (go_at_call 20; refine (HQ3.out _).mono ?_; rintro e' wz ⟨rfl, hwz⟩; have hwz := hwz.symm; subst hwz) | (go_at_call 18; refine (HQ4.out _ _).mono ?_; rintro e' wz ⟨rfl, hwz⟩; have hwz := hwz.symm; subst hwz) | (go_at_call 13; refine (HQ5.out _ _).mono ?_; rintro e' wz ⟨rfl, hwz⟩; have hwz := hwz.symm; subst hwz) | (go_at_call 15; refine (HQ6.out _).mono ?_; rintro e' wz ⟨rfl, hwz⟩; have hwz := hwz.symm; subst hwz) | (go_at_call 11; refine (HQ7.out _).mono ?_; rintro e' wz ⟨rfl, hwz⟩; have hwz := hwz.symm; subst hwz))
  go_ret
  have hbq := HBA.out.trans (HBQ.out.mono HBA.out.size)
  exact ⟨rfl, (hbq.alloc hbq.size _).alloc (Nat.le_trans hbq.size (by simp)) _⟩

set_option maxHeartbeats 8000000 in
theorem refuses_zero_many {W : World} (hE : Env W) (z : Int) (hz : 0 < z) (m : Nat) (hm : z.tmod 6 = m) (hm4 : 4 ≤ m + 1) (hm6 : m + 1 ≤ 6) :
    Calls Tryd.prog 6 #[.int .i64 0, .int .i64 z] W fun e w' => e = .returned (.bool true) ∧ Below W.heap.size W w' := by
  have HE := Lib.hid hE
  have HN := Lib.hid (New_good W 10 (by unfold newOk; omega))
  clear hE
  have hpg : isPgB 0 ((10 : Nat) : Int) = false := by decide
  have HUU := Lib.hid (@turn_bad useC (List.replicate 10 0) 0 10 hpg)
  have HVV := Lib.hid (@turn_bad relC (List.replicate 10 0) 0 10 hpg)
  have HPG := Lib.hid hpg
  clear hpg
  have wm : IntKind.i64.wrap ((m : Nat) : Int) = ((m : Nat) : Int) := wrap_in (by omega) (by omega)
  have wm1 : IntKind.i64.wrap ((m : Int) + 1) = (m : Int) + 1 := wrap_in (by omega) (by omega)
  have m4 : ¬ (m : Int) + 1 < 4 := by omega
  have m4' : (4 : Int) ≤ (m : Int) + 1 := by omega
  have HM := Lib.hid (And.intro hm4 hm6)
  clear hm4 hm6
  go_enter Tryd.func6, Tryd.ntmps6
  go_upto_region 9 with (first | (go_at_call 7; refine HN.out.mono ?_; rintro e' w1 ⟨gd, T, rfl, hb, hT, hd⟩; have HO := Lib.hid (Open_new HE.out hb hT hd (by decide)); clear hb hT hd) | (go_at_call 8; refine HO.out.mono ?_; rintro e' w2 ⟨g, gs, rfl, hr⟩; have HR := Lib.hid hr; have HAN := Lib.hid (answersP_any (hr.env HE.out)); clear hr) | (go_at_call 9; refine HAN.out.mono ?_; rintro e' w3 ⟨rfl, hb3⟩; have HR3 := Lib.hid (HR.out.grow hb3); have HU := Lib.hid (HR3.out.use1 rfl 0); clear hb3) | (go_at_call 18; refine HU.out.mono ?_; rintro e' w4 ⟨rfl, hr4⟩; (try dsimp only at hr4); rw [show fltE [(0 : Int)] (newD 10).sz = 1 from HUU.out.1]; rw [show turnT useC (List.replicate 10 0) [(0 : Int)] (newD 10).sz = List.replicate 10 0 from HUU.out.2] at hr4; have HR4 := Lib.hid hr4; have HV := Lib.hid (hr4.free1 rfl 0); clear hr4) | (go_at_call 13; refine HV.out.mono ?_; rintro e' w5 ⟨rfl, hr5⟩; (try dsimp only at hr5); rw [show fltE [(0 : Int)] (newD 10).sz = 1 from HVV.out.1]; rw [show turnT relC (List.replicate 10 0) [(0 : Int)] (newD 10).sz = List.replicate 10 0 from HVV.out.2] at hr5; have HR5 := Lib.hid hr5; obtain ⟨T6, hT6, hB6⟩ := hr5.bo; have HB6 := Lib.hid hB6; have HFL := Lib.hid (Rn.flip HE.out HR5.out rfl rfl (by decide) (by decide) 0 (by decide) (.inl rfl) (by decide)); clear hr5 hT6 hB6) | (go_at_call 15; refine HFL.out.mono ?_; rintro e' w6 ⟨rfl, hr6⟩; have HR6 := Lib.hid hr6; obtain ⟨T6', hT6', hB6'⟩ := hr6.bo; have HRD := Lib.hid (ReadP_bad hB6' rfl 0 HPG.out); clear hr6 hT6' hB6') | (go_at_call 17; refine HRD.out.mono ?_; rintro e' w7 ⟨rfl, hv7⟩; have HR7 := Lib.hid (HR6.out.grow hv7); clear hv7))
  have hmk := (made_bytes w7 506 (by decide)).1
  have hmr := (made_bytes w7 506 (by decide)).2
  obtain ⟨w8, hw8⟩ : ∃ u, w7.alloc (.cells (madeCells #[.int .u8 0] 506) 5) = u := ⟨_, rfl⟩
  rw [hw8] at hmk hmr
  have hmk' : (Instr.makeSlice 34 (.int .i64 506) (.int .i64 506)).run Tryd.prog w7 = .ok (.slice (some ⟨w7.heap.size, 0, none⟩) 506 506) w8 := hmk
  obtain ⟨A8, c8, ev8, hB8, -⟩ := hmr.at
  have hr8 := HR7.out.grow hmr.1
  obtain ⟨T8, hT8, hb8⟩ := hr8.bo
  have hNL := New_large (hr8.env HE.out) hb8 rfl (A := some ⟨w7.heap.size, 0, none⟩) (c := 506) (d := List.replicate 506 0) (by
    have e1 := (Value.slice.inj ev8).1
    rw [← e1] at hB8
    exact hB8) (fun e => by cases e) (by rw [List.length_replicate]; decide)
  rw [List.length_replicate] at hNL
  have HNL := Lib.hid hNL
  have HR8 := Lib.hid hr8
  have HON := Lib.hid (fun W => OpenP_nil W)
  have HN2 := Lib.hid (fun W => New_good W (m + 1) (by have := HM.out; unfold newOk; omega))
  clear hmr hmk ev8 hB8 hr8 hT8 hb8 hNL hw8
  go_upto_region 22 with (first | (go_at_call 10; refine HNL.out.mono ?_; rintro e' w9 ⟨rfl, hb9⟩; have HR9 := Lib.hid (HR8.out.grow hb9); clear hb9) | (go_at_call 8; (with_reducible refine (HON.out _).mono ?_); rintro e' wz ⟨rfl, hwz⟩; have hwz := hwz.symm; subst hwz) | (go_at_call 7; refine (HN2.out _).mono ?_; rintro e' wn ⟨gdx, Tx, rfl, hb, hT, hd⟩; have HE2 := Lib.hid (HR9.out.env HE.out); have HO2 := Lib.hid (Open_new HE2.out hb hT hd HM.out.1); have HB9 := Lib.hid hb; clear hb hT hd) | (go_at_call 8; refine HO2.out.mono ?_; rintro e' wo ⟨gx, gsx, rfl, hrx⟩; have HBZ := Lib.hid hrx.1; clear hrx))
  have HBA := Lib.hid (HR9.out.1.trans (HBZ.out.mono HR9.out.1.size))
  have HQ1 := Lib.hid (fun W => Read_nil W 2)
  have HQ2 := Lib.hid (fun W => New_nil W none 0 0)
  have HQ3 := Lib.hid (fun W => Root_nil W)
  have HQ4 := Lib.hid (fun W A => Use_nil W A 1 1)
  have HQ5 := Lib.hid (fun W A => Free_nil W A 1 1)
  have HQ6 := Lib.hid (fun W => Flip_nil W 0)
  have HQ7 := Lib.hid (fun W => Room_nil W)
  go_wp2_with (first | (go_at_call 17; refine (HQ1.out _).mono ?_; rintro e' wq ⟨rfl, hbq⟩; have HBQ := Lib.hid hbq; clear hbq) | (go_at_call 10; refine (HQ2.out _).mono ?_; rintro e' wz ⟨rfl, hwz⟩; have hwz := hwz.symm; subst hwz) | (go_at_call 20; refine (HQ3.out _).mono ?_; rintro e' wz ⟨rfl, hwz⟩; have hwz := hwz.symm; subst hwz) | (go_at_call 18; refine (HQ4.out _ _).mono ?_; rintro e' wz ⟨rfl, hwz⟩; have hwz := hwz.symm; subst hwz) | (go_at_call 13; refine (HQ5.out _ _).mono ?_; rintro e' wz ⟨rfl, hwz⟩; have hwz := hwz.symm; subst hwz) | (go_at_call 15; refine (HQ6.out _).mono ?_; rintro e' wz ⟨rfl, hwz⟩; have hwz := hwz.symm; subst hwz) | (go_at_call 11; refine (HQ7.out _).mono ?_; rintro e' wz ⟨rfl, hwz⟩; have hwz := hwz.symm; subst hwz))
  go_ret
  have hbq := HBA.out.trans (HBQ.out.mono HBA.out.size)
  exact ⟨rfl, (hbq.alloc hbq.size _).alloc (Nat.le_trans hbq.size (by simp)) _⟩

set_option maxHeartbeats 8000000 in
theorem refuses_low_neg {W : World} (hE : Env W) (k : Int) (hk : k < 2) (h0 : k ≠ 0) (z : Int) (hz : ¬ 0 < z) :
    Calls Tryd.prog 6 #[.int .i64 k, .int .i64 z] W fun e w' => e = .returned (.bool true) ∧ Below W.heap.size W w' := by
  have HE := Lib.hid hE
  have HN := Lib.hid (New_good W 10 (by unfold newOk; omega))
  clear hE
  have hpg : isPgB k ((10 : Nat) : Int) = false := isPgB_f (fun e => by omega)
  have kl : ¬ 2 ≤ k := by omega
  have HUU := Lib.hid (@turn_bad useC (List.replicate 10 0) k 10 hpg)
  have HVV := Lib.hid (@turn_bad relC (List.replicate 10 0) k 10 hpg)
  have hmb : mayB (List.replicate 10 0) k 10 = false := by unfold mayB; rw [hpg]; rfl
  have HMB := Lib.hid hmb
  have HPG := Lib.hid hpg
  have HK0 := Lib.hid h0
  have k0 : (k == 0) = false := by rw [beq_eq_false_iff_ne]; exact h0
  have k0' : (k != 0) = true := by rw [bne_iff_ne]; exact h0
  clear hpg hmb h0 hk
  go_enter Tryd.func6, Tryd.ntmps6
  go_upto_region 9 with (first | (go_at_call 7; refine HN.out.mono ?_; rintro e' w1 ⟨gd, T, rfl, hb, hT, hd⟩; have HO := Lib.hid (Open_new HE.out hb hT hd (by decide)); clear hb hT hd) | (go_at_call 8; refine HO.out.mono ?_; rintro e' w2 ⟨g, gs, rfl, hr⟩; have HR := Lib.hid hr; have HAN := Lib.hid (answersP_any (hr.env HE.out)); clear hr) | (go_at_call 9; refine HAN.out.mono ?_; rintro e' w3 ⟨rfl, hb3⟩; have HR3 := Lib.hid (HR.out.grow hb3); have HU := Lib.hid (HR3.out.use1 rfl k); clear hb3) | (go_at_call 18; refine HU.out.mono ?_; rintro e' w4 ⟨rfl, hr4⟩; (try dsimp only at hr4); rw [show fltE [k] (newD 10).sz = 1 from HUU.out.1]; rw [show turnT useC (List.replicate 10 0) [k] (newD 10).sz = List.replicate 10 0 from HUU.out.2] at hr4; have HR4 := Lib.hid hr4; have HV := Lib.hid (hr4.free1 rfl k); clear hr4) | (go_at_call 13; refine HV.out.mono ?_; rintro e' w5 ⟨rfl, hr5⟩; (try dsimp only at hr5); rw [show fltE [k] (newD 10).sz = 1 from HVV.out.1]; rw [show turnT relC (List.replicate 10 0) [k] (newD 10).sz = List.replicate 10 0 from HVV.out.2] at hr5; have HR5 := Lib.hid hr5; obtain ⟨T6, hT6, hB6⟩ := hr5.bo; have HB6 := Lib.hid hB6; have HFL := Lib.hid (Flip_bad hB6 rfl k HK0.out HMB.out); clear hr5 hT6 hB6) | (go_at_call 15; refine HFL.out.mono ?_; rintro e' w6 ⟨rfl, hwz⟩; have hwz := hwz.symm; subst hwz; have HRD := Lib.hid (ReadP_bad HB6.out rfl k HPG.out)) | (go_at_call 17; refine HRD.out.mono ?_; rintro e' w7 ⟨rfl, hv7⟩; have HR7 := Lib.hid (HR5.out.grow hv7); clear hv7))
  have hmk := (made_bytes w7 506 (by decide)).1
  have hmr := (made_bytes w7 506 (by decide)).2
  obtain ⟨w8, hw8⟩ : ∃ u, w7.alloc (.cells (madeCells #[.int .u8 0] 506) 5) = u := ⟨_, rfl⟩
  rw [hw8] at hmk hmr
  have hmk' : (Instr.makeSlice 34 (.int .i64 506) (.int .i64 506)).run Tryd.prog w7 = .ok (.slice (some ⟨w7.heap.size, 0, none⟩) 506 506) w8 := hmk
  obtain ⟨A8, c8, ev8, hB8, -⟩ := hmr.at
  have hr8 := HR7.out.grow hmr.1
  obtain ⟨T8, hT8, hb8⟩ := hr8.bo
  have hNL := New_large (hr8.env HE.out) hb8 rfl (A := some ⟨w7.heap.size, 0, none⟩) (c := 506) (d := List.replicate 506 0) (by
    have e1 := (Value.slice.inj ev8).1
    rw [← e1] at hB8
    exact hB8) (fun e => by cases e) (by rw [List.length_replicate]; decide)
  rw [List.length_replicate] at hNL
  have HNL := Lib.hid hNL
  have HR8 := Lib.hid hr8
  have HON := Lib.hid (fun W => OpenP_nil W)
  have HN2 := Lib.hid (fun W => New_good W 1 (by unfold newOk; omega))
  clear hmr hmk ev8 hB8 hr8 hT8 hb8 hNL hw8
  go_upto_region 22 with (first | (go_at_call 10; refine HNL.out.mono ?_; rintro e' w9 ⟨rfl, hb9⟩; have HR9 := Lib.hid (HR8.out.grow hb9); clear hb9) | (go_at_call 8; (with_reducible refine (HON.out _).mono ?_); rintro e' wz ⟨rfl, hwz⟩; have hwz := hwz.symm; subst hwz) | (go_at_call 7; refine (HN2.out _).mono ?_; rintro e' wn ⟨gdx, Tx, rfl, hb, hT, hd⟩; have HE2 := Lib.hid (HR9.out.env HE.out); have HO2 := Lib.hid (OpenP_small hd (by decide)); have HB9 := Lib.hid hb; clear hb hT hd) | (go_at_call 8; refine HO2.out.mono ?_; rintro e' wz ⟨rfl, hwz⟩; have hwz := hwz.symm; subst hwz))
  have HBA := Lib.hid (HR9.out.1.trans (HB9.out.mono HR9.out.1.size))
  have HQ1 := Lib.hid (fun W => Read_nil W 2)
  have HQ2 := Lib.hid (fun W => New_nil W none 0 0)
  have HQ3 := Lib.hid (fun W => Root_nil W)
  have HQ4 := Lib.hid (fun W A => Use_nil W A 1 1)
  have HQ5 := Lib.hid (fun W A => Free_nil W A 1 1)
  have HQ6 := Lib.hid (fun W => Flip_nil W 0)
  have HQ7 := Lib.hid (fun W => Room_nil W)
  go_wp2_with (first | (go_at_call 17; refine (HQ1.out _).mono ?_; rintro e' wq ⟨rfl, hbq⟩; have HBQ := Lib.hid hbq; clear hbq) | (go_at_call 10; refine (HQ2.out _).mono ?_; rintro e' wz ⟨rfl, hwz⟩; have hwz := hwz.symm; subst hwz) | (go_at_call 20; refine (HQ3.out _).mono ?_; rintro e' wz ⟨rfl, hwz⟩; have hwz := hwz.symm; subst hwz) | (go_at_call 18; refine (HQ4.out _ _).mono ?_; rintro e' wz ⟨rfl, hwz⟩; have hwz := hwz.symm; subst hwz) | (go_at_call 13; refine (HQ5.out _ _).mono ?_; rintro e' wz ⟨rfl, hwz⟩; have hwz := hwz.symm; subst hwz) | (go_at_call 15; refine (HQ6.out _).mono ?_; rintro e' wz ⟨rfl, hwz⟩; have hwz := hwz.symm; subst hwz) | (go_at_call 11; refine (HQ7.out _).mono ?_; rintro e' wz ⟨rfl, hwz⟩; have hwz := hwz.symm; subst hwz))
  go_ret
  have hbq := HBA.out.trans (HBQ.out.mono HBA.out.size)
  exact ⟨rfl, (hbq.alloc hbq.size _).alloc (Nat.le_trans hbq.size (by simp)) _⟩

set_option maxHeartbeats 8000000 in
theorem refuses_low_few {W : World} (hE : Env W) (k : Int) (hk : k < 2) (h0 : k ≠ 0) (z : Int) (hz : 0 < z) (m : Nat) (hm : z.tmod 6 = m) (hm4 : m + 1 < 4) :
    Calls Tryd.prog 6 #[.int .i64 k, .int .i64 z] W fun e w' => e = .returned (.bool true) ∧ Below W.heap.size W w' := by
  have HE := Lib.hid hE
  have HN := Lib.hid (New_good W 10 (by unfold newOk; omega))
  clear hE
  have hpg : isPgB k ((10 : Nat) : Int) = false := isPgB_f (fun e => by omega)
  have kl : ¬ 2 ≤ k := by omega
  have HUU := Lib.hid (@turn_bad useC (List.replicate 10 0) k 10 hpg)
  have HVV := Lib.hid (@turn_bad relC (List.replicate 10 0) k 10 hpg)
  have hmb : mayB (List.replicate 10 0) k 10 = false := by unfold mayB; rw [hpg]; rfl
  have HMB := Lib.hid hmb
  have HPG := Lib.hid hpg
  have HK0 := Lib.hid h0
  have k0 : (k == 0) = false := by rw [beq_eq_false_iff_ne]; exact h0
  have k0' : (k != 0) = true := by rw [bne_iff_ne]; exact h0
  clear hpg hmb h0 hk
  have wm : IntKind.i64.wrap ((m : Nat) : Int) = ((m : Nat) : Int) := wrap_in (by omega) (by omega)
  have wm1 : IntKind.i64.wrap ((m : Int) + 1) = (m : Int) + 1 := wrap_in (by omega) (by omega)
  have m4 : (m : Int) + 1 < 4 := by omega
  have m4' : ¬ (4 : Int) ≤ (m : Int) + 1 := by omega
  have HM := Lib.hid hm4
  clear hm4
  go_enter Tryd.func6, Tryd.ntmps6
  go_upto_region 9 with (first | (go_at_call 7; refine HN.out.mono ?_; rintro e' w1 ⟨gd, T, rfl, hb, hT, hd⟩; have HO := Lib.hid (Open_new HE.out hb hT hd (by decide)); clear hb hT hd) | (go_at_call 8; refine HO.out.mono ?_; rintro e' w2 ⟨g, gs, rfl, hr⟩; have HR := Lib.hid hr; have HAN := Lib.hid (answersP_any (hr.env HE.out)); clear hr) | (go_at_call 9; refine HAN.out.mono ?_; rintro e' w3 ⟨rfl, hb3⟩; have HR3 := Lib.hid (HR.out.grow hb3); have HU := Lib.hid (HR3.out.use1 rfl k); clear hb3) | (go_at_call 18; refine HU.out.mono ?_; rintro e' w4 ⟨rfl, hr4⟩; (try dsimp only at hr4); rw [show fltE [k] (newD 10).sz = 1 from HUU.out.1]; rw [show turnT useC (List.replicate 10 0) [k] (newD 10).sz = List.replicate 10 0 from HUU.out.2] at hr4; have HR4 := Lib.hid hr4; have HV := Lib.hid (hr4.free1 rfl k); clear hr4) | (go_at_call 13; refine HV.out.mono ?_; rintro e' w5 ⟨rfl, hr5⟩; (try dsimp only at hr5); rw [show fltE [k] (newD 10).sz = 1 from HVV.out.1]; rw [show turnT relC (List.replicate 10 0) [k] (newD 10).sz = List.replicate 10 0 from HVV.out.2] at hr5; have HR5 := Lib.hid hr5; obtain ⟨T6, hT6, hB6⟩ := hr5.bo; have HB6 := Lib.hid hB6; have HFL := Lib.hid (Flip_bad hB6 rfl k HK0.out HMB.out); clear hr5 hT6 hB6) | (go_at_call 15; refine HFL.out.mono ?_; rintro e' w6 ⟨rfl, hwz⟩; have hwz := hwz.symm; subst hwz; have HRD := Lib.hid (ReadP_bad HB6.out rfl k HPG.out)) | (go_at_call 17; refine HRD.out.mono ?_; rintro e' w7 ⟨rfl, hv7⟩; have HR7 := Lib.hid (HR5.out.grow hv7); clear hv7))
  have hmk := (made_bytes w7 506 (by decide)).1
  have hmr := (made_bytes w7 506 (by decide)).2
  obtain ⟨w8, hw8⟩ : ∃ u, w7.alloc (.cells (madeCells #[.int .u8 0] 506) 5) = u := ⟨_, rfl⟩
  rw [hw8] at hmk hmr
  have hmk' : (Instr.makeSlice 34 (.int .i64 506) (.int .i64 506)).run Tryd.prog w7 = .ok (.slice (some ⟨w7.heap.size, 0, none⟩) 506 506) w8 := hmk
  obtain ⟨A8, c8, ev8, hB8, -⟩ := hmr.at
  have hr8 := HR7.out.grow hmr.1
  obtain ⟨T8, hT8, hb8⟩ := hr8.bo
  have hNL := New_large (hr8.env HE.out) hb8 rfl (A := some ⟨w7.heap.size, 0, none⟩) (c := 506) (d := List.replicate 506 0) (by
    have e1 := (Value.slice.inj ev8).1
    rw [← e1] at hB8
    exact hB8) (fun e => by cases e) (by rw [List.length_replicate]; decide)
  rw [List.length_replicate] at hNL
  have HNL := Lib.hid hNL
  have HR8 := Lib.hid hr8
  have HON := Lib.hid (fun W => OpenP_nil W)
  have HN2 := Lib.hid (fun W => New_good W (m + 1) (by have := HM.out; unfold newOk; omega))
  clear hmr hmk ev8 hB8 hr8 hT8 hb8 hNL hw8
  go_upto_region 22 with (first | (go_at_call 10; refine HNL.out.mono ?_; rintro e' w9 ⟨rfl, hb9⟩; have HR9 := Lib.hid (HR8.out.grow hb9); clear hb9) | (go_at_call 8; (with_reducible refine (HON.out _).mono ?_); rintro e' wz ⟨rfl, hwz⟩; have hwz := hwz.symm; subst hwz) | (go_at_call 7; refine (HN2.out _).mono ?_; rintro e' wn ⟨gdx, Tx, rfl, hb, hT, hd⟩; have HE2 := Lib.hid (HR9.out.env HE.out); have HO2 := Lib.hid (OpenP_small hd HM.out); have HB9 := Lib.hid hb; clear hb hT hd) | (go_at_call 8; refine HO2.out.mono ?_; rintro e' wz ⟨rfl, hwz⟩; have hwz := hwz.symm; subst hwz))
  have HBA := Lib.hid (HR9.out.1.trans (HB9.out.mono HR9.out.1.size))
  have HQ1 := Lib.hid (fun W => Read_nil W 2)
  have HQ2 := Lib.hid (fun W => New_nil W none 0 0)
  have HQ3 := Lib.hid (fun W => Root_nil W)
  have HQ4 := Lib.hid (fun W A => Use_nil W A 1 1)
  have HQ5 := Lib.hid (fun W A => Free_nil W A 1 1)
  have HQ6 := Lib.hid (fun W => Flip_nil W 0)
  have HQ7 := Lib.hid (fun W => Room_nil W)
  go_wp2_with (first | (go_at_call 17; refine (HQ1.out _).mono ?_; rintro e' wq ⟨rfl, hbq⟩; have HBQ := Lib.hid hbq; clear hbq) | (go_at_call 10; refine (HQ2.out _).mono ?_; rintro e' wz ⟨rfl, hwz⟩; have hwz := hwz.symm; subst hwz) | (go_at_call 20; refine (HQ3.out _).mono ?_; rintro e' wz ⟨rfl, hwz⟩; have hwz := hwz.symm; subst hwz) | (go_at_call 18; refine (HQ4.out _ _).mono ?_; rintro e' wz ⟨rfl, hwz⟩; have hwz := hwz.symm; subst hwz) | (go_at_call 13; refine (HQ5.out _ _).mono ?_; rintro e' wz ⟨rfl, hwz⟩; have hwz := hwz.symm; subst hwz) | (go_at_call 15; refine (HQ6.out _).mono ?_; rintro e' wz ⟨rfl, hwz⟩; have hwz := hwz.symm; subst hwz) | (go_at_call 11; refine (HQ7.out _).mono ?_; rintro e' wz ⟨rfl, hwz⟩; have hwz := hwz.symm; subst hwz))
  go_ret
  have hbq := HBA.out.trans (HBQ.out.mono HBA.out.size)
  exact ⟨rfl, (hbq.alloc hbq.size _).alloc (Nat.le_trans hbq.size (by simp)) _⟩

set_option maxHeartbeats 8000000 in
theorem refuses_low_many {W : World} (hE : Env W) (k : Int) (hk : k < 2) (h0 : k ≠ 0) (z : Int) (hz : 0 < z) (m : Nat) (hm : z.tmod 6 = m) (hm4 : 4 ≤ m + 1) (hm6 : m + 1 ≤ 6) :
    Calls Tryd.prog 6 #[.int .i64 k, .int .i64 z] W fun e w' => e = .returned (.bool true) ∧ Below W.heap.size W w' := by
  have HE := Lib.hid hE
  have HN := Lib.hid (New_good W 10 (by unfold newOk; omega))
  clear hE
  have hpg : isPgB k ((10 : Nat) : Int) = false := isPgB_f (fun e => by omega)
  have kl : ¬ 2 ≤ k := by omega
  have HUU := Lib.hid (@turn_bad useC (List.replicate 10 0) k 10 hpg)
  have HVV := Lib.hid (@turn_bad relC (List.replicate 10 0) k 10 hpg)
  have hmb : mayB (List.replicate 10 0) k 10 = false := by unfold mayB; rw [hpg]; rfl
  have HMB := Lib.hid hmb
  have HPG := Lib.hid hpg
  have HK0 := Lib.hid h0
  have k0 : (k == 0) = false := by rw [beq_eq_false_iff_ne]; exact h0
  have k0' : (k != 0) = true := by rw [bne_iff_ne]; exact h0
  clear hpg hmb h0 hk
  have wm : IntKind.i64.wrap ((m : Nat) : Int) = ((m : Nat) : Int) := wrap_in (by omega) (by omega)
  have wm1 : IntKind.i64.wrap ((m : Int) + 1) = (m : Int) + 1 := wrap_in (by omega) (by omega)
  have m4 : ¬ (m : Int) + 1 < 4 := by omega
  have m4' : (4 : Int) ≤ (m : Int) + 1 := by omega
  have HM := Lib.hid (And.intro hm4 hm6)
  clear hm4 hm6
  go_enter Tryd.func6, Tryd.ntmps6
  go_upto_region 9 with (first | (go_at_call 7; refine HN.out.mono ?_; rintro e' w1 ⟨gd, T, rfl, hb, hT, hd⟩; have HO := Lib.hid (Open_new HE.out hb hT hd (by decide)); clear hb hT hd) | (go_at_call 8; refine HO.out.mono ?_; rintro e' w2 ⟨g, gs, rfl, hr⟩; have HR := Lib.hid hr; have HAN := Lib.hid (answersP_any (hr.env HE.out)); clear hr) | (go_at_call 9; refine HAN.out.mono ?_; rintro e' w3 ⟨rfl, hb3⟩; have HR3 := Lib.hid (HR.out.grow hb3); have HU := Lib.hid (HR3.out.use1 rfl k); clear hb3) | (go_at_call 18; refine HU.out.mono ?_; rintro e' w4 ⟨rfl, hr4⟩; (try dsimp only at hr4); rw [show fltE [k] (newD 10).sz = 1 from HUU.out.1]; rw [show turnT useC (List.replicate 10 0) [k] (newD 10).sz = List.replicate 10 0 from HUU.out.2] at hr4; have HR4 := Lib.hid hr4; have HV := Lib.hid (hr4.free1 rfl k); clear hr4) | (go_at_call 13; refine HV.out.mono ?_; rintro e' w5 ⟨rfl, hr5⟩; (try dsimp only at hr5); rw [show fltE [k] (newD 10).sz = 1 from HVV.out.1]; rw [show turnT relC (List.replicate 10 0) [k] (newD 10).sz = List.replicate 10 0 from HVV.out.2] at hr5; have HR5 := Lib.hid hr5; obtain ⟨T6, hT6, hB6⟩ := hr5.bo; have HB6 := Lib.hid hB6; have HFL := Lib.hid (Flip_bad hB6 rfl k HK0.out HMB.out); clear hr5 hT6 hB6) | (go_at_call 15; refine HFL.out.mono ?_; rintro e' w6 ⟨rfl, hwz⟩; have hwz := hwz.symm; subst hwz; have HRD := Lib.hid (ReadP_bad HB6.out rfl k HPG.out)) | (go_at_call 17; refine HRD.out.mono ?_; rintro e' w7 ⟨rfl, hv7⟩; have HR7 := Lib.hid (HR5.out.grow hv7); clear hv7))
  have hmk := (made_bytes w7 506 (by decide)).1
  have hmr := (made_bytes w7 506 (by decide)).2
  obtain ⟨w8, hw8⟩ : ∃ u, w7.alloc (.cells (madeCells #[.int .u8 0] 506) 5) = u := ⟨_, rfl⟩
  rw [hw8] at hmk hmr
  have hmk' : (Instr.makeSlice 34 (.int .i64 506) (.int .i64 506)).run Tryd.prog w7 = .ok (.slice (some ⟨w7.heap.size, 0, none⟩) 506 506) w8 := hmk
  obtain ⟨A8, c8, ev8, hB8, -⟩ := hmr.at
  have hr8 := HR7.out.grow hmr.1
  obtain ⟨T8, hT8, hb8⟩ := hr8.bo
  have hNL := New_large (hr8.env HE.out) hb8 rfl (A := some ⟨w7.heap.size, 0, none⟩) (c := 506) (d := List.replicate 506 0) (by
    have e1 := (Value.slice.inj ev8).1
    rw [← e1] at hB8
    exact hB8) (fun e => by cases e) (by rw [List.length_replicate]; decide)
  rw [List.length_replicate] at hNL
  have HNL := Lib.hid hNL
  have HR8 := Lib.hid hr8
  have HON := Lib.hid (fun W => OpenP_nil W)
  have HN2 := Lib.hid (fun W => New_good W (m + 1) (by have := HM.out; unfold newOk; omega))
  clear hmr hmk ev8 hB8 hr8 hT8 hb8 hNL hw8
  go_upto_region 22 with (first | (go_at_call 10; refine HNL.out.mono ?_; rintro e' w9 ⟨rfl, hb9⟩; have HR9 := Lib.hid (HR8.out.grow hb9); clear hb9) | (go_at_call 8; (with_reducible refine (HON.out _).mono ?_); rintro e' wz ⟨rfl, hwz⟩; have hwz := hwz.symm; subst hwz) | (go_at_call 7; refine (HN2.out _).mono ?_; rintro e' wn ⟨gdx, Tx, rfl, hb, hT, hd⟩; have HE2 := Lib.hid (HR9.out.env HE.out); have HO2 := Lib.hid (Open_new HE2.out hb hT hd HM.out.1); have HB9 := Lib.hid hb; clear hb hT hd) | (go_at_call 8; refine HO2.out.mono ?_; rintro e' wo ⟨gx, gsx, rfl, hrx⟩; have HBZ := Lib.hid hrx.1; clear hrx))
  have HBA := Lib.hid (HR9.out.1.trans (HBZ.out.mono HR9.out.1.size))
  have HQ1 := Lib.hid (fun W => Read_nil W 2)
  have HQ2 := Lib.hid (fun W => New_nil W none 0 0)
  have HQ3 := Lib.hid (fun W => Root_nil W)
  have HQ4 := Lib.hid (fun W A => Use_nil W A 1 1)
  have HQ5 := Lib.hid (fun W A => Free_nil W A 1 1)
  have HQ6 := Lib.hid (fun W => Flip_nil W 0)
  have HQ7 := Lib.hid (fun W => Room_nil W)
  go_wp2_with (first | (go_at_call 17; refine (HQ1.out _).mono ?_; rintro e' wq ⟨rfl, hbq⟩; have HBQ := Lib.hid hbq; clear hbq) | (go_at_call 10; refine (HQ2.out _).mono ?_; rintro e' wz ⟨rfl, hwz⟩; have hwz := hwz.symm; subst hwz) | (go_at_call 20; refine (HQ3.out _).mono ?_; rintro e' wz ⟨rfl, hwz⟩; have hwz := hwz.symm; subst hwz) | (go_at_call 18; refine (HQ4.out _ _).mono ?_; rintro e' wz ⟨rfl, hwz⟩; have hwz := hwz.symm; subst hwz) | (go_at_call 13; refine (HQ5.out _ _).mono ?_; rintro e' wz ⟨rfl, hwz⟩; have hwz := hwz.symm; subst hwz) | (go_at_call 15; refine (HQ6.out _).mono ?_; rintro e' wz ⟨rfl, hwz⟩; have hwz := hwz.symm; subst hwz) | (go_at_call 11; refine (HQ7.out _).mono ?_; rintro e' wz ⟨rfl, hwz⟩; have hwz := hwz.symm; subst hwz))
  go_ret
  have hbq := HBA.out.trans (HBQ.out.mono HBA.out.size)
  exact ⟨rfl, (hbq.alloc hbq.size _).alloc (Nat.le_trans hbq.size (by simp)) _⟩

set_option maxHeartbeats 8000000 in
theorem refuses_high_neg {W : World} (hE : Env W) (k : Int) (hk : 10 ≤ k) (h0 : k ≠ 0) (z : Int) (hz : ¬ 0 < z) :
    Calls Tryd.prog 6 #[.int .i64 k, .int .i64 z] W fun e w' => e = .returned (.bool true) ∧ Below W.heap.size W w' := by
  have HE := Lib.hid hE
  have HN := Lib.hid (New_good W 10 (by unfold newOk; omega))
  clear hE
  have hpg : isPgB k ((10 : Nat) : Int) = false := isPgB_f (fun e => by omega)
  have kl : 2 ≤ k := by omega
  have kh : ¬ k < 10 := by omega
  have HUU := Lib.hid (@turn_bad useC (List.replicate 10 0) k 10 hpg)
  have HVV := Lib.hid (@turn_bad relC (List.replicate 10 0) k 10 hpg)
  have hmb : mayB (List.replicate 10 0) k 10 = false := by unfold mayB; rw [hpg]; rfl
  have HMB := Lib.hid hmb
  have HPG := Lib.hid hpg
  have HK0 := Lib.hid h0
  have k0 : (k == 0) = false := by rw [beq_eq_false_iff_ne]; exact h0
  have k0' : (k != 0) = true := by rw [bne_iff_ne]; exact h0
  clear hpg hmb h0 hk
  go_enter Tryd.func6, Tryd.ntmps6
  go_upto_region 9 with (first | (go_at_call 7; refine HN.out.mono ?_; rintro e' w1 ⟨gd, T, rfl, hb, hT, hd⟩; have HO := Lib.hid (Open_new HE.out hb hT hd (by decide)); clear hb hT hd) | (go_at_call 8; refine HO.out.mono ?_; rintro e' w2 ⟨g, gs, rfl, hr⟩; have HR := Lib.hid hr; have HAN := Lib.hid (answersP_any (hr.env HE.out)); clear hr) | (go_at_call 9; refine HAN.out.mono ?_; rintro e' w3 ⟨rfl, hb3⟩; have HR3 := Lib.hid (HR.out.grow hb3); have HU := Lib.hid (HR3.out.use1 rfl k); clear hb3) | (go_at_call 18; refine HU.out.mono ?_; rintro e' w4 ⟨rfl, hr4⟩; (try dsimp only at hr4); rw [show fltE [k] (newD 10).sz = 1 from HUU.out.1]; rw [show turnT useC (List.replicate 10 0) [k] (newD 10).sz = List.replicate 10 0 from HUU.out.2] at hr4; have HR4 := Lib.hid hr4; have HV := Lib.hid (hr4.free1 rfl k); clear hr4) | (go_at_call 13; refine HV.out.mono ?_; rintro e' w5 ⟨rfl, hr5⟩; (try dsimp only at hr5); rw [show fltE [k] (newD 10).sz = 1 from HVV.out.1]; rw [show turnT relC (List.replicate 10 0) [k] (newD 10).sz = List.replicate 10 0 from HVV.out.2] at hr5; have HR5 := Lib.hid hr5; obtain ⟨T6, hT6, hB6⟩ := hr5.bo; have HB6 := Lib.hid hB6; have HFL := Lib.hid (Flip_bad hB6 rfl k HK0.out HMB.out); clear hr5 hT6 hB6) | (go_at_call 15; refine HFL.out.mono ?_; rintro e' w6 ⟨rfl, hwz⟩; have hwz := hwz.symm; subst hwz; have HRD := Lib.hid (ReadP_bad HB6.out rfl k HPG.out)) | (go_at_call 17; refine HRD.out.mono ?_; rintro e' w7 ⟨rfl, hv7⟩; have HR7 := Lib.hid (HR5.out.grow hv7); clear hv7))
  have hmk := (made_bytes w7 506 (by decide)).1
  have hmr := (made_bytes w7 506 (by decide)).2
  obtain ⟨w8, hw8⟩ : ∃ u, w7.alloc (.cells (madeCells #[.int .u8 0] 506) 5) = u := ⟨_, rfl⟩
  rw [hw8] at hmk hmr
  have hmk' : (Instr.makeSlice 34 (.int .i64 506) (.int .i64 506)).run Tryd.prog w7 = .ok (.slice (some ⟨w7.heap.size, 0, none⟩) 506 506) w8 := hmk
  obtain ⟨A8, c8, ev8, hB8, -⟩ := hmr.at
  have hr8 := HR7.out.grow hmr.1
  obtain ⟨T8, hT8, hb8⟩ := hr8.bo
  have hNL := New_large (hr8.env HE.out) hb8 rfl (A := some ⟨w7.heap.size, 0, none⟩) (c := 506) (d := List.replicate 506 0) (by
    have e1 := (Value.slice.inj ev8).1
    rw [← e1] at hB8
    exact hB8) (fun e => by cases e) (by rw [List.length_replicate]; decide)
  rw [List.length_replicate] at hNL
  have HNL := Lib.hid hNL
  have HR8 := Lib.hid hr8
  have HON := Lib.hid (fun W => OpenP_nil W)
  have HN2 := Lib.hid (fun W => New_good W 1 (by unfold newOk; omega))
  clear hmr hmk ev8 hB8 hr8 hT8 hb8 hNL hw8
  go_upto_region 22 with (first | (go_at_call 10; refine HNL.out.mono ?_; rintro e' w9 ⟨rfl, hb9⟩; have HR9 := Lib.hid (HR8.out.grow hb9); clear hb9) | (go_at_call 8; (with_reducible refine (HON.out _).mono ?_); rintro e' wz ⟨rfl, hwz⟩; have hwz := hwz.symm; subst hwz) | (go_at_call 7; refine (HN2.out _).mono ?_; rintro e' wn ⟨gdx, Tx, rfl, hb, hT, hd⟩; have HE2 := Lib.hid (HR9.out.env HE.out); have HO2 := Lib.hid (OpenP_small hd (by decide)); have HB9 := Lib.hid hb; clear hb hT hd) | (go_at_call 8; refine HO2.out.mono ?_; rintro e' wz ⟨rfl, hwz⟩; have hwz := hwz.symm; subst hwz))
  have HBA := Lib.hid (HR9.out.1.trans (HB9.out.mono HR9.out.1.size))
  have HQ1 := Lib.hid (fun W => Read_nil W 2)
  have HQ2 := Lib.hid (fun W => New_nil W none 0 0)
  have HQ3 := Lib.hid (fun W => Root_nil W)
  have HQ4 := Lib.hid (fun W A => Use_nil W A 1 1)
  have HQ5 := Lib.hid (fun W A => Free_nil W A 1 1)
  have HQ6 := Lib.hid (fun W => Flip_nil W 0)
  have HQ7 := Lib.hid (fun W => Room_nil W)
  go_wp2_with (first | (go_at_call 17; refine (HQ1.out _).mono ?_; rintro e' wq ⟨rfl, hbq⟩; have HBQ := Lib.hid hbq; clear hbq) | (go_at_call 10; refine (HQ2.out _).mono ?_; rintro e' wz ⟨rfl, hwz⟩; have hwz := hwz.symm; subst hwz) | (go_at_call 20; refine (HQ3.out _).mono ?_; rintro e' wz ⟨rfl, hwz⟩; have hwz := hwz.symm; subst hwz) | (go_at_call 18; refine (HQ4.out _ _).mono ?_; rintro e' wz ⟨rfl, hwz⟩; have hwz := hwz.symm; subst hwz) | (go_at_call 13; refine (HQ5.out _ _).mono ?_; rintro e' wz ⟨rfl, hwz⟩; have hwz := hwz.symm; subst hwz) | (go_at_call 15; refine (HQ6.out _).mono ?_; rintro e' wz ⟨rfl, hwz⟩; have hwz := hwz.symm; subst hwz) | (go_at_call 11; refine (HQ7.out _).mono ?_; rintro e' wz ⟨rfl, hwz⟩; have hwz := hwz.symm; subst hwz))
  go_ret
  have hbq := HBA.out.trans (HBQ.out.mono HBA.out.size)
  exact ⟨rfl, (hbq.alloc hbq.size _).alloc (Nat.le_trans hbq.size (by simp)) _⟩

set_option maxHeartbeats 8000000 in
theorem refuses_high_few {W : World} (hE : Env W) (k : Int) (hk : 10 ≤ k) (h0 : k ≠ 0) (z : Int) (hz : 0 < z) (m : Nat) (hm : z.tmod 6 = m) (hm4 : m + 1 < 4) :
    Calls Tryd.prog 6 #[.int .i64 k, .int .i64 z] W fun e w' => e = .returned (.bool true) ∧ Below W.heap.size W w' := by
  have HE := Lib.hid hE
  have HN := Lib.hid (New_good W 10 (by unfold newOk; omega))
  clear hE
  have hpg : isPgB k ((10 : Nat) : Int) = false := isPgB_f (fun e => by omega)
  have kl : 2 ≤ k := by omega
  have kh : ¬ k < 10 := by omega
  have HUU := Lib.hid (@turn_bad useC (List.replicate 10 0) k 10 hpg)
  have HVV := Lib.hid (@turn_bad relC (List.replicate 10 0) k 10 hpg)
  have hmb : mayB (List.replicate 10 0) k 10 = false := by unfold mayB; rw [hpg]; rfl
  have HMB := Lib.hid hmb
  have HPG := Lib.hid hpg
  have HK0 := Lib.hid h0
  have k0 : (k == 0) = false := by rw [beq_eq_false_iff_ne]; exact h0
  have k0' : (k != 0) = true := by rw [bne_iff_ne]; exact h0
  clear hpg hmb h0 hk
  have wm : IntKind.i64.wrap ((m : Nat) : Int) = ((m : Nat) : Int) := wrap_in (by omega) (by omega)
  have wm1 : IntKind.i64.wrap ((m : Int) + 1) = (m : Int) + 1 := wrap_in (by omega) (by omega)
  have m4 : (m : Int) + 1 < 4 := by omega
  have m4' : ¬ (4 : Int) ≤ (m : Int) + 1 := by omega
  have HM := Lib.hid hm4
  clear hm4
  go_enter Tryd.func6, Tryd.ntmps6
  go_upto_region 9 with (first | (go_at_call 7; refine HN.out.mono ?_; rintro e' w1 ⟨gd, T, rfl, hb, hT, hd⟩; have HO := Lib.hid (Open_new HE.out hb hT hd (by decide)); clear hb hT hd) | (go_at_call 8; refine HO.out.mono ?_; rintro e' w2 ⟨g, gs, rfl, hr⟩; have HR := Lib.hid hr; have HAN := Lib.hid (answersP_any (hr.env HE.out)); clear hr) | (go_at_call 9; refine HAN.out.mono ?_; rintro e' w3 ⟨rfl, hb3⟩; have HR3 := Lib.hid (HR.out.grow hb3); have HU := Lib.hid (HR3.out.use1 rfl k); clear hb3) | (go_at_call 18; refine HU.out.mono ?_; rintro e' w4 ⟨rfl, hr4⟩; (try dsimp only at hr4); rw [show fltE [k] (newD 10).sz = 1 from HUU.out.1]; rw [show turnT useC (List.replicate 10 0) [k] (newD 10).sz = List.replicate 10 0 from HUU.out.2] at hr4; have HR4 := Lib.hid hr4; have HV := Lib.hid (hr4.free1 rfl k); clear hr4) | (go_at_call 13; refine HV.out.mono ?_; rintro e' w5 ⟨rfl, hr5⟩; (try dsimp only at hr5); rw [show fltE [k] (newD 10).sz = 1 from HVV.out.1]; rw [show turnT relC (List.replicate 10 0) [k] (newD 10).sz = List.replicate 10 0 from HVV.out.2] at hr5; have HR5 := Lib.hid hr5; obtain ⟨T6, hT6, hB6⟩ := hr5.bo; have HB6 := Lib.hid hB6; have HFL := Lib.hid (Flip_bad hB6 rfl k HK0.out HMB.out); clear hr5 hT6 hB6) | (go_at_call 15; refine HFL.out.mono ?_; rintro e' w6 ⟨rfl, hwz⟩; have hwz := hwz.symm; subst hwz; have HRD := Lib.hid (ReadP_bad HB6.out rfl k HPG.out)) | (go_at_call 17; refine HRD.out.mono ?_; rintro e' w7 ⟨rfl, hv7⟩; have HR7 := Lib.hid (HR5.out.grow hv7); clear hv7))
  have hmk := (made_bytes w7 506 (by decide)).1
  have hmr := (made_bytes w7 506 (by decide)).2
  obtain ⟨w8, hw8⟩ : ∃ u, w7.alloc (.cells (madeCells #[.int .u8 0] 506) 5) = u := ⟨_, rfl⟩
  rw [hw8] at hmk hmr
  have hmk' : (Instr.makeSlice 34 (.int .i64 506) (.int .i64 506)).run Tryd.prog w7 = .ok (.slice (some ⟨w7.heap.size, 0, none⟩) 506 506) w8 := hmk
  obtain ⟨A8, c8, ev8, hB8, -⟩ := hmr.at
  have hr8 := HR7.out.grow hmr.1
  obtain ⟨T8, hT8, hb8⟩ := hr8.bo
  have hNL := New_large (hr8.env HE.out) hb8 rfl (A := some ⟨w7.heap.size, 0, none⟩) (c := 506) (d := List.replicate 506 0) (by
    have e1 := (Value.slice.inj ev8).1
    rw [← e1] at hB8
    exact hB8) (fun e => by cases e) (by rw [List.length_replicate]; decide)
  rw [List.length_replicate] at hNL
  have HNL := Lib.hid hNL
  have HR8 := Lib.hid hr8
  have HON := Lib.hid (fun W => OpenP_nil W)
  have HN2 := Lib.hid (fun W => New_good W (m + 1) (by have := HM.out; unfold newOk; omega))
  clear hmr hmk ev8 hB8 hr8 hT8 hb8 hNL hw8
  go_upto_region 22 with (first | (go_at_call 10; refine HNL.out.mono ?_; rintro e' w9 ⟨rfl, hb9⟩; have HR9 := Lib.hid (HR8.out.grow hb9); clear hb9) | (go_at_call 8; (with_reducible refine (HON.out _).mono ?_); rintro e' wz ⟨rfl, hwz⟩; have hwz := hwz.symm; subst hwz) | (go_at_call 7; refine (HN2.out _).mono ?_; rintro e' wn ⟨gdx, Tx, rfl, hb, hT, hd⟩; have HE2 := Lib.hid (HR9.out.env HE.out); have HO2 := Lib.hid (OpenP_small hd HM.out); have HB9 := Lib.hid hb; clear hb hT hd) | (go_at_call 8; refine HO2.out.mono ?_; rintro e' wz ⟨rfl, hwz⟩; have hwz := hwz.symm; subst hwz))
  have HBA := Lib.hid (HR9.out.1.trans (HB9.out.mono HR9.out.1.size))
  have HQ1 := Lib.hid (fun W => Read_nil W 2)
  have HQ2 := Lib.hid (fun W => New_nil W none 0 0)
  have HQ3 := Lib.hid (fun W => Root_nil W)
  have HQ4 := Lib.hid (fun W A => Use_nil W A 1 1)
  have HQ5 := Lib.hid (fun W A => Free_nil W A 1 1)
  have HQ6 := Lib.hid (fun W => Flip_nil W 0)
  have HQ7 := Lib.hid (fun W => Room_nil W)
  go_wp2_with (first | (go_at_call 17; refine (HQ1.out _).mono ?_; rintro e' wq ⟨rfl, hbq⟩; have HBQ := Lib.hid hbq; clear hbq) | (go_at_call 10; refine (HQ2.out _).mono ?_; rintro e' wz ⟨rfl, hwz⟩; have hwz := hwz.symm; subst hwz) | (go_at_call 20; refine (HQ3.out _).mono ?_; rintro e' wz ⟨rfl, hwz⟩; have hwz := hwz.symm; subst hwz) | (go_at_call 18; refine (HQ4.out _ _).mono ?_; rintro e' wz ⟨rfl, hwz⟩; have hwz := hwz.symm; subst hwz) | (go_at_call 13; refine (HQ5.out _ _).mono ?_; rintro e' wz ⟨rfl, hwz⟩; have hwz := hwz.symm; subst hwz) | (go_at_call 15; refine (HQ6.out _).mono ?_; rintro e' wz ⟨rfl, hwz⟩; have hwz := hwz.symm; subst hwz) | (go_at_call 11; refine (HQ7.out _).mono ?_; rintro e' wz ⟨rfl, hwz⟩; have hwz := hwz.symm; subst hwz))
  go_ret
  have hbq := HBA.out.trans (HBQ.out.mono HBA.out.size)
  exact ⟨rfl, (hbq.alloc hbq.size _).alloc (Nat.le_trans hbq.size (by simp)) _⟩

set_option maxHeartbeats 8000000 in
theorem refuses_high_many {W : World} (hE : Env W) (k : Int) (hk : 10 ≤ k) (h0 : k ≠ 0) (z : Int) (hz : 0 < z) (m : Nat) (hm : z.tmod 6 = m) (hm4 : 4 ≤ m + 1) (hm6 : m + 1 ≤ 6) :
    Calls Tryd.prog 6 #[.int .i64 k, .int .i64 z] W fun e w' => e = .returned (.bool true) ∧ Below W.heap.size W w' := by
  have HE := Lib.hid hE
  have HN := Lib.hid (New_good W 10 (by unfold newOk; omega))
  clear hE
  have hpg : isPgB k ((10 : Nat) : Int) = false := isPgB_f (fun e => by omega)
  have kl : 2 ≤ k := by omega
  have kh : ¬ k < 10 := by omega
  have HUU := Lib.hid (@turn_bad useC (List.replicate 10 0) k 10 hpg)
  have HVV := Lib.hid (@turn_bad relC (List.replicate 10 0) k 10 hpg)
  have hmb : mayB (List.replicate 10 0) k 10 = false := by unfold mayB; rw [hpg]; rfl
  have HMB := Lib.hid hmb
  have HPG := Lib.hid hpg
  have HK0 := Lib.hid h0
  have k0 : (k == 0) = false := by rw [beq_eq_false_iff_ne]; exact h0
  have k0' : (k != 0) = true := by rw [bne_iff_ne]; exact h0
  clear hpg hmb h0 hk
  have wm : IntKind.i64.wrap ((m : Nat) : Int) = ((m : Nat) : Int) := wrap_in (by omega) (by omega)
  have wm1 : IntKind.i64.wrap ((m : Int) + 1) = (m : Int) + 1 := wrap_in (by omega) (by omega)
  have m4 : ¬ (m : Int) + 1 < 4 := by omega
  have m4' : (4 : Int) ≤ (m : Int) + 1 := by omega
  have HM := Lib.hid (And.intro hm4 hm6)
  clear hm4 hm6
  go_enter Tryd.func6, Tryd.ntmps6
  go_upto_region 9 with (first | (go_at_call 7; refine HN.out.mono ?_; rintro e' w1 ⟨gd, T, rfl, hb, hT, hd⟩; have HO := Lib.hid (Open_new HE.out hb hT hd (by decide)); clear hb hT hd) | (go_at_call 8; refine HO.out.mono ?_; rintro e' w2 ⟨g, gs, rfl, hr⟩; have HR := Lib.hid hr; have HAN := Lib.hid (answersP_any (hr.env HE.out)); clear hr) | (go_at_call 9; refine HAN.out.mono ?_; rintro e' w3 ⟨rfl, hb3⟩; have HR3 := Lib.hid (HR.out.grow hb3); have HU := Lib.hid (HR3.out.use1 rfl k); clear hb3) | (go_at_call 18; refine HU.out.mono ?_; rintro e' w4 ⟨rfl, hr4⟩; (try dsimp only at hr4); rw [show fltE [k] (newD 10).sz = 1 from HUU.out.1]; rw [show turnT useC (List.replicate 10 0) [k] (newD 10).sz = List.replicate 10 0 from HUU.out.2] at hr4; have HR4 := Lib.hid hr4; have HV := Lib.hid (hr4.free1 rfl k); clear hr4) | (go_at_call 13; refine HV.out.mono ?_; rintro e' w5 ⟨rfl, hr5⟩; (try dsimp only at hr5); rw [show fltE [k] (newD 10).sz = 1 from HVV.out.1]; rw [show turnT relC (List.replicate 10 0) [k] (newD 10).sz = List.replicate 10 0 from HVV.out.2] at hr5; have HR5 := Lib.hid hr5; obtain ⟨T6, hT6, hB6⟩ := hr5.bo; have HB6 := Lib.hid hB6; have HFL := Lib.hid (Flip_bad hB6 rfl k HK0.out HMB.out); clear hr5 hT6 hB6) | (go_at_call 15; refine HFL.out.mono ?_; rintro e' w6 ⟨rfl, hwz⟩; have hwz := hwz.symm; subst hwz; have HRD := Lib.hid (ReadP_bad HB6.out rfl k HPG.out)) | (go_at_call 17; refine HRD.out.mono ?_; rintro e' w7 ⟨rfl, hv7⟩; have HR7 := Lib.hid (HR5.out.grow hv7); clear hv7))
  have hmk := (made_bytes w7 506 (by decide)).1
  have hmr := (made_bytes w7 506 (by decide)).2
  obtain ⟨w8, hw8⟩ : ∃ u, w7.alloc (.cells (madeCells #[.int .u8 0] 506) 5) = u := ⟨_, rfl⟩
  rw [hw8] at hmk hmr
  have hmk' : (Instr.makeSlice 34 (.int .i64 506) (.int .i64 506)).run Tryd.prog w7 = .ok (.slice (some ⟨w7.heap.size, 0, none⟩) 506 506) w8 := hmk
  obtain ⟨A8, c8, ev8, hB8, -⟩ := hmr.at
  have hr8 := HR7.out.grow hmr.1
  obtain ⟨T8, hT8, hb8⟩ := hr8.bo
  have hNL := New_large (hr8.env HE.out) hb8 rfl (A := some ⟨w7.heap.size, 0, none⟩) (c := 506) (d := List.replicate 506 0) (by
    have e1 := (Value.slice.inj ev8).1
    rw [← e1] at hB8
    exact hB8) (fun e => by cases e) (by rw [List.length_replicate]; decide)
  rw [List.length_replicate] at hNL
  have HNL := Lib.hid hNL
  have HR8 := Lib.hid hr8
  have HON := Lib.hid (fun W => OpenP_nil W)
  have HN2 := Lib.hid (fun W => New_good W (m + 1) (by have := HM.out; unfold newOk; omega))
  clear hmr hmk ev8 hB8 hr8 hT8 hb8 hNL hw8
  go_upto_region 22 with (first | (go_at_call 10; refine HNL.out.mono ?_; rintro e' w9 ⟨rfl, hb9⟩; have HR9 := Lib.hid (HR8.out.grow hb9); clear hb9) | (go_at_call 8; (with_reducible refine (HON.out _).mono ?_); rintro e' wz ⟨rfl, hwz⟩; have hwz := hwz.symm; subst hwz) | (go_at_call 7; refine (HN2.out _).mono ?_; rintro e' wn ⟨gdx, Tx, rfl, hb, hT, hd⟩; have HE2 := Lib.hid (HR9.out.env HE.out); have HO2 := Lib.hid (Open_new HE2.out hb hT hd HM.out.1); have HB9 := Lib.hid hb; clear hb hT hd) | (go_at_call 8; refine HO2.out.mono ?_; rintro e' wo ⟨gx, gsx, rfl, hrx⟩; have HBZ := Lib.hid hrx.1; clear hrx))
  have HBA := Lib.hid (HR9.out.1.trans (HBZ.out.mono HR9.out.1.size))
  have HQ1 := Lib.hid (fun W => Read_nil W 2)
  have HQ2 := Lib.hid (fun W => New_nil W none 0 0)
  have HQ3 := Lib.hid (fun W => Root_nil W)
  have HQ4 := Lib.hid (fun W A => Use_nil W A 1 1)
  have HQ5 := Lib.hid (fun W A => Free_nil W A 1 1)
  have HQ6 := Lib.hid (fun W => Flip_nil W 0)
  have HQ7 := Lib.hid (fun W => Room_nil W)
  go_wp2_with (first | (go_at_call 17; refine (HQ1.out _).mono ?_; rintro e' wq ⟨rfl, hbq⟩; have HBQ := Lib.hid hbq; clear hbq) | (go_at_call 10; refine (HQ2.out _).mono ?_; rintro e' wz ⟨rfl, hwz⟩; have hwz := hwz.symm; subst hwz) | (go_at_call 20; refine (HQ3.out _).mono ?_; rintro e' wz ⟨rfl, hwz⟩; have hwz := hwz.symm; subst hwz) | (go_at_call 18; refine (HQ4.out _ _).mono ?_; rintro e' wz ⟨rfl, hwz⟩; have hwz := hwz.symm; subst hwz) | (go_at_call 13; refine (HQ5.out _ _).mono ?_; rintro e' wz ⟨rfl, hwz⟩; have hwz := hwz.symm; subst hwz) | (go_at_call 15; refine (HQ6.out _).mono ?_; rintro e' wz ⟨rfl, hwz⟩; have hwz := hwz.symm; subst hwz) | (go_at_call 11; refine (HQ7.out _).mono ?_; rintro e' wz ⟨rfl, hwz⟩; have hwz := hwz.symm; subst hwz))
  go_ret
  have hbq := HBA.out.trans (HBQ.out.mono HBA.out.size)
  exact ⟨rfl, (hbq.alloc hbq.size _).alloc (Nat.le_trans hbq.size (by simp)) _⟩

theorem refuses_walk {W : World} (hE : Env W) (p z : Int) : Calls Tryd.prog 6 #[.int .i64 p, .int .i64 z] W fun e w' => e = .returned (.bool true) ∧ Below W.heap.size W w' := by
  by_cases hp : 2 ≤ p ∧ p < 10
  · obtain ⟨k, rfl⟩ : ∃ k : Nat, p = k := ⟨p.toNat, by omega⟩
    by_cases hz : 0 < z
    · obtain ⟨m, hm⟩ : ∃ m : Nat, z.tmod 6 = m := ⟨(z.tmod 6).toNat, by rw [Int.tmod_eq_emod_of_nonneg (by omega)]; omega⟩
      have hm6 : m < 6 := by rw [Int.tmod_eq_emod_of_nonneg (by omega)] at hm; omega
      by_cases h4 : 4 ≤ m + 1
      · exact refuses_page_many hE k (by omega) (by omega) z hz m hm h4 (by omega)
      · exact refuses_page_few hE k (by omega) (by omega) z hz m hm (by omega)
    · exact refuses_page_neg hE k (by omega) (by omega) z hz
  · by_cases h0 : p = 0
    · subst h0
      by_cases hz : 0 < z
      · obtain ⟨m, hm⟩ : ∃ m : Nat, z.tmod 6 = m := ⟨(z.tmod 6).toNat, by rw [Int.tmod_eq_emod_of_nonneg (by omega)]; omega⟩
        have hm6 : m < 6 := by rw [Int.tmod_eq_emod_of_nonneg (by omega)] at hm; omega
        by_cases h4 : 4 ≤ m + 1
        · exact refuses_zero_many hE z hz m hm h4 (by omega)
        · exact refuses_zero_few hE z hz m hm (by omega)
      · exact refuses_zero_neg hE z hz
    · by_cases hl : p < 2
      · by_cases hz : 0 < z
        · obtain ⟨m, hm⟩ : ∃ m : Nat, z.tmod 6 = m := ⟨(z.tmod 6).toNat, by rw [Int.tmod_eq_emod_of_nonneg (by omega)]; omega⟩
          have hm6 : m < 6 := by rw [Int.tmod_eq_emod_of_nonneg (by omega)] at hm; omega
          by_cases h4 : 4 ≤ m + 1
          · exact refuses_low_many hE p (by omega) h0 z hz m hm h4 (by omega)
          · exact refuses_low_few hE p (by omega) h0 z hz m hm (by omega)
        · exact refuses_low_neg hE p (by omega) h0 z hz
      · by_cases hz : 0 < z
        · obtain ⟨m, hm⟩ : ∃ m : Nat, z.tmod 6 = m := ⟨(z.tmod 6).toNat, by rw [Int.tmod_eq_emod_of_nonneg (by omega)]; omega⟩
          have hm6 : m < 6 := by rw [Int.tmod_eq_emod_of_nonneg (by omega)] at hm; omega
          by_cases h4 : 4 ≤ m + 1
          · exact refuses_high_many hE p (by omega) h0 z hz m hm h4 (by omega)
          · exact refuses_high_few hE p (by omega) h0 z hz m hm (by omega)
        · exact refuses_high_neg hE p (by omega) h0 z hz
end Go.Proofs.YtfjiceoagenfnaaDoor
