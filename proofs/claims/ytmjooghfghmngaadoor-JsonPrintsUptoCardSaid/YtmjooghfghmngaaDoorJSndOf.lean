/- The printer's sound, from what is within. -/
import Derived.Test.YtmjooghfghmngaaDoorJSnd
namespace Go.Proofs.YtmjooghfghmngaaDoor
open Go.RowKit Go.Shelf Go.Lib

set_option maxHeartbeats 4000000 in
set_option maxRecDepth 100000 in
theorem sound_of {w : World} (k : Int) (t : ByteArray) (A1 A2 : Option Addr) (n1 c1 n2 c2 : Nat) (hE : Env w) (ht : t.size ≤ 9223372036854775807) (n : Int) (wi : Bool)
    (hw : ∀ W', Below w.heap.size w W' → Calls Tryd.prog 31 #[.agg #[.int .i64 k, .string t, .slice A1 n1 c1, .slice A2 n2 c2], .int .i64 n] W' fun e w' => e = .returned (.bool wi) ∧ Below W'.heap.size W' w') :
    Calls Tryd.prog 17 #[.agg #[.int .i64 k, .string t, .slice A1 n1 c1, .slice A2 n2 c2], .int .i64 n] w fun e w' => e = .returned (.bool (headJ k t n1 n2 wi)) ∧ Below w.heap.size w w' := by
  have hB1 : Below w.heap.size w (w.alloc (Obj.cells #[.int .i64 k, .string t, .slice A1 n1 c1, .slice A2 n2 c2] 25)) := by go_grown
  have hV := valid_any t (hE.on hB1) ht
  have hM := isNumber_any t (w.alloc (Obj.cells #[.int .i64 k, .string t, .slice A1 n1 c1, .slice A2 n2 c2] 25)) ht
  have h0 := heap_alloc_new w (Obj.cells #[.int .i64 k, .string t, .slice A1 n1 c1, .slice A2 n2 c2] 25)
  have HS := Lib.hid (fun W => single_of k t A1 A2 n1 n2 c1 c2 W)
  obtain ⟨res, hres⟩ : ∃ res, res = headJ k t n1 n2 wi := ⟨_, rfl⟩
  rw [← hres]
  unfold headJ at hres
  generalize Lib.validD t.data.toList = vv at hV hres
  generalize numB t.data.toList = vm at hM hres
  obtain ⟨ze, hze⟩ : ∃ ze, ze = t.toList.isEmpty := ⟨_, rfl⟩
  obtain ⟨z1, hz1⟩ : ∃ z1, z1 = ((n1 : Int) == 0) := ⟨_, rfl⟩
  obtain ⟨z2, hz2⟩ : ∃ z2, z2 = ((n1 : Int) == (n2 : Int)) := ⟨_, rfl⟩
  obtain ⟨zs, hzs⟩ : ∃ zs, zs = (n1 == 0 && n2 == 0) := ⟨_, rfl⟩
  have e1 : (n1 == 0) = z1 := by rw [hz1, Bool.eq_iff_iff, beq_iff_eq, beq_iff_eq]; omega
  have e2 : (n1 == n2) = z2 := by rw [hz2, Bool.eq_iff_iff, beq_iff_eq, beq_iff_eq]; omega
  rw [← hze, ← hzs, e1, e2] at hres
  rw [← hzs] at HS
  have HZE := Lib.hid hze.symm
  have HZ1 := Lib.hid hz1.symm
  have HZ2 := Lib.hid hz2.symm
  have HV := Lib.hid hV
  have HM := Lib.hid hM
  have HB1 := Lib.hid hB1
  have HX := Lib.hid (fun W (hb : Below (w.alloc (Obj.cells #[.int .i64 k, .string t, .slice A1 n1 c1, .slice A2 n2 c2] 25)).heap.size (w.alloc (Obj.cells #[.int .i64 k, .string t, .slice A1 n1 c1, .slice A2 n2 c2] 25)) W) => (hb.block _ (blk_lt h0)).trans h0)
  have HW := Lib.hid hw
  have HRES := Lib.hid hres
  clear hV hM hB1 hE h0 hres hw e1 e2 hzs hze hz1 hz2
  by_cases k1 : k = 1
  · subst k1
    have HR2 : Hid (res = (ze && zs)) := by
      have := HRES.out
      rwa [if_pos (.inl rfl)] at this
    clear HRES
    cases ze
    · skip
      go_enter Tryd.func17, Tryd.ntmps17
      go_upto_region 5 with (fail)
      have hze := HZE.out
      go_wp2_with (first
        | (go_at_call 30; (with_reducible refine HV.out.mono ?_); rintro e' w2 ⟨rfl, hb2⟩; have hbk := HX.out _ hb2; have q0 : w2.cell? ⟨w.heap.size, 0, none⟩ = some (.int .i64 1) := blk_cell hbk 0; have q1 : w2.cell? ⟨w.heap.size, 1, none⟩ = some (.string t) := blk_cell hbk 1; have q2 : w2.cell? ⟨w.heap.size, 2, none⟩ = some (.slice A1 n1 c1) := blk_cell hbk 2; have q3 : w2.cell? ⟨w.heap.size, 3, none⟩ = some (.slice A2 n2 c2) := blk_cell hbk 3; have HB2 := Lib.hid (HB1.out.trans (hb2.mono HB1.out.size)); clear hb2 hbk)
        | (go_at_call 29; (with_reducible refine HM.out.mono ?_); rintro e' w2 ⟨rfl, hb2⟩; have hbk := HX.out _ hb2; have q0 : w2.cell? ⟨w.heap.size, 0, none⟩ = some (.int .i64 1) := blk_cell hbk 0; have q1 : w2.cell? ⟨w.heap.size, 1, none⟩ = some (.string t) := blk_cell hbk 1; have q2 : w2.cell? ⟨w.heap.size, 2, none⟩ = some (.slice A1 n1 c1) := blk_cell hbk 2; have q3 : w2.cell? ⟨w.heap.size, 3, none⟩ = some (.slice A2 n2 c2) := blk_cell hbk 3; have HB2 := Lib.hid (HB1.out.trans (hb2.mono HB1.out.size)); clear hb2 hbk)
        | (go_at_call 28; (with_reducible refine (HS.out _).mono ?_); rintro e' w3 ⟨rfl, hb3⟩; have HB3 := Lib.hid (by first | exact HB2.out.trans (hb3.mono HB2.out.size) | exact HB1.out.trans (hb3.mono HB1.out.size) : Below w.heap.size w w3); clear hb3)
        | (go_at_call 31; (with_reducible refine (HW.out _ HB1.out).mono ?_); rintro e' w3 ⟨rfl, hb3⟩; have HB3 := Lib.hid (HB1.out.trans (hb3.mono HB1.out.size)); clear hb3))
      go_ret
      exact ⟨by rw [HR2.out]; rfl, by first | exact HB3.out | exact HB2.out | exact HB1.out⟩
    · skip
      go_enter Tryd.func17, Tryd.ntmps17
      go_upto_region 5 with (fail)
      have hze := HZE.out
      go_wp2_with (first
        | (go_at_call 30; (with_reducible refine HV.out.mono ?_); rintro e' w2 ⟨rfl, hb2⟩; have hbk := HX.out _ hb2; have q0 : w2.cell? ⟨w.heap.size, 0, none⟩ = some (.int .i64 1) := blk_cell hbk 0; have q1 : w2.cell? ⟨w.heap.size, 1, none⟩ = some (.string t) := blk_cell hbk 1; have q2 : w2.cell? ⟨w.heap.size, 2, none⟩ = some (.slice A1 n1 c1) := blk_cell hbk 2; have q3 : w2.cell? ⟨w.heap.size, 3, none⟩ = some (.slice A2 n2 c2) := blk_cell hbk 3; have HB2 := Lib.hid (HB1.out.trans (hb2.mono HB1.out.size)); clear hb2 hbk)
        | (go_at_call 29; (with_reducible refine HM.out.mono ?_); rintro e' w2 ⟨rfl, hb2⟩; have hbk := HX.out _ hb2; have q0 : w2.cell? ⟨w.heap.size, 0, none⟩ = some (.int .i64 1) := blk_cell hbk 0; have q1 : w2.cell? ⟨w.heap.size, 1, none⟩ = some (.string t) := blk_cell hbk 1; have q2 : w2.cell? ⟨w.heap.size, 2, none⟩ = some (.slice A1 n1 c1) := blk_cell hbk 2; have q3 : w2.cell? ⟨w.heap.size, 3, none⟩ = some (.slice A2 n2 c2) := blk_cell hbk 3; have HB2 := Lib.hid (HB1.out.trans (hb2.mono HB1.out.size)); clear hb2 hbk)
        | (go_at_call 28; (with_reducible refine (HS.out _).mono ?_); rintro e' w3 ⟨rfl, hb3⟩; have HB3 := Lib.hid (by first | exact HB2.out.trans (hb3.mono HB2.out.size) | exact HB1.out.trans (hb3.mono HB1.out.size) : Below w.heap.size w w3); clear hb3)
        | (go_at_call 31; (with_reducible refine (HW.out _ HB1.out).mono ?_); rintro e' w3 ⟨rfl, hb3⟩; have HB3 := Lib.hid (HB1.out.trans (hb3.mono HB1.out.size)); clear hb3))
      go_ret
      exact ⟨by rw [HR2.out]; rfl, by first | exact HB3.out | exact HB2.out | exact HB1.out⟩
  by_cases k2 : k = 2
  · subst k2
    have HR2 : Hid (res = (ze && zs)) := by
      have := HRES.out
      rwa [if_pos (.inr (.inl rfl))] at this
    clear HRES
    cases ze
    · skip
      go_enter Tryd.func17, Tryd.ntmps17
      go_upto_region 5 with (fail)
      have hze := HZE.out
      go_wp2_with (first
        | (go_at_call 30; (with_reducible refine HV.out.mono ?_); rintro e' w2 ⟨rfl, hb2⟩; have hbk := HX.out _ hb2; have q0 : w2.cell? ⟨w.heap.size, 0, none⟩ = some (.int .i64 2) := blk_cell hbk 0; have q1 : w2.cell? ⟨w.heap.size, 1, none⟩ = some (.string t) := blk_cell hbk 1; have q2 : w2.cell? ⟨w.heap.size, 2, none⟩ = some (.slice A1 n1 c1) := blk_cell hbk 2; have q3 : w2.cell? ⟨w.heap.size, 3, none⟩ = some (.slice A2 n2 c2) := blk_cell hbk 3; have HB2 := Lib.hid (HB1.out.trans (hb2.mono HB1.out.size)); clear hb2 hbk)
        | (go_at_call 29; (with_reducible refine HM.out.mono ?_); rintro e' w2 ⟨rfl, hb2⟩; have hbk := HX.out _ hb2; have q0 : w2.cell? ⟨w.heap.size, 0, none⟩ = some (.int .i64 2) := blk_cell hbk 0; have q1 : w2.cell? ⟨w.heap.size, 1, none⟩ = some (.string t) := blk_cell hbk 1; have q2 : w2.cell? ⟨w.heap.size, 2, none⟩ = some (.slice A1 n1 c1) := blk_cell hbk 2; have q3 : w2.cell? ⟨w.heap.size, 3, none⟩ = some (.slice A2 n2 c2) := blk_cell hbk 3; have HB2 := Lib.hid (HB1.out.trans (hb2.mono HB1.out.size)); clear hb2 hbk)
        | (go_at_call 28; (with_reducible refine (HS.out _).mono ?_); rintro e' w3 ⟨rfl, hb3⟩; have HB3 := Lib.hid (by first | exact HB2.out.trans (hb3.mono HB2.out.size) | exact HB1.out.trans (hb3.mono HB1.out.size) : Below w.heap.size w w3); clear hb3)
        | (go_at_call 31; (with_reducible refine (HW.out _ HB1.out).mono ?_); rintro e' w3 ⟨rfl, hb3⟩; have HB3 := Lib.hid (HB1.out.trans (hb3.mono HB1.out.size)); clear hb3))
      go_ret
      exact ⟨by rw [HR2.out]; rfl, by first | exact HB3.out | exact HB2.out | exact HB1.out⟩
    · skip
      go_enter Tryd.func17, Tryd.ntmps17
      go_upto_region 5 with (fail)
      have hze := HZE.out
      go_wp2_with (first
        | (go_at_call 30; (with_reducible refine HV.out.mono ?_); rintro e' w2 ⟨rfl, hb2⟩; have hbk := HX.out _ hb2; have q0 : w2.cell? ⟨w.heap.size, 0, none⟩ = some (.int .i64 2) := blk_cell hbk 0; have q1 : w2.cell? ⟨w.heap.size, 1, none⟩ = some (.string t) := blk_cell hbk 1; have q2 : w2.cell? ⟨w.heap.size, 2, none⟩ = some (.slice A1 n1 c1) := blk_cell hbk 2; have q3 : w2.cell? ⟨w.heap.size, 3, none⟩ = some (.slice A2 n2 c2) := blk_cell hbk 3; have HB2 := Lib.hid (HB1.out.trans (hb2.mono HB1.out.size)); clear hb2 hbk)
        | (go_at_call 29; (with_reducible refine HM.out.mono ?_); rintro e' w2 ⟨rfl, hb2⟩; have hbk := HX.out _ hb2; have q0 : w2.cell? ⟨w.heap.size, 0, none⟩ = some (.int .i64 2) := blk_cell hbk 0; have q1 : w2.cell? ⟨w.heap.size, 1, none⟩ = some (.string t) := blk_cell hbk 1; have q2 : w2.cell? ⟨w.heap.size, 2, none⟩ = some (.slice A1 n1 c1) := blk_cell hbk 2; have q3 : w2.cell? ⟨w.heap.size, 3, none⟩ = some (.slice A2 n2 c2) := blk_cell hbk 3; have HB2 := Lib.hid (HB1.out.trans (hb2.mono HB1.out.size)); clear hb2 hbk)
        | (go_at_call 28; (with_reducible refine (HS.out _).mono ?_); rintro e' w3 ⟨rfl, hb3⟩; have HB3 := Lib.hid (by first | exact HB2.out.trans (hb3.mono HB2.out.size) | exact HB1.out.trans (hb3.mono HB1.out.size) : Below w.heap.size w w3); clear hb3)
        | (go_at_call 31; (with_reducible refine (HW.out _ HB1.out).mono ?_); rintro e' w3 ⟨rfl, hb3⟩; have HB3 := Lib.hid (HB1.out.trans (hb3.mono HB1.out.size)); clear hb3))
      go_ret
      exact ⟨by rw [HR2.out]; rfl, by first | exact HB3.out | exact HB2.out | exact HB1.out⟩
  by_cases k3 : k = 3
  · subst k3
    have HR2 : Hid (res = (ze && zs)) := by
      have := HRES.out
      rwa [if_pos (.inr (.inr rfl))] at this
    clear HRES
    cases ze
    · skip
      go_enter Tryd.func17, Tryd.ntmps17
      go_upto_region 5 with (fail)
      have hze := HZE.out
      go_wp2_with (first
        | (go_at_call 30; (with_reducible refine HV.out.mono ?_); rintro e' w2 ⟨rfl, hb2⟩; have hbk := HX.out _ hb2; have q0 : w2.cell? ⟨w.heap.size, 0, none⟩ = some (.int .i64 3) := blk_cell hbk 0; have q1 : w2.cell? ⟨w.heap.size, 1, none⟩ = some (.string t) := blk_cell hbk 1; have q2 : w2.cell? ⟨w.heap.size, 2, none⟩ = some (.slice A1 n1 c1) := blk_cell hbk 2; have q3 : w2.cell? ⟨w.heap.size, 3, none⟩ = some (.slice A2 n2 c2) := blk_cell hbk 3; have HB2 := Lib.hid (HB1.out.trans (hb2.mono HB1.out.size)); clear hb2 hbk)
        | (go_at_call 29; (with_reducible refine HM.out.mono ?_); rintro e' w2 ⟨rfl, hb2⟩; have hbk := HX.out _ hb2; have q0 : w2.cell? ⟨w.heap.size, 0, none⟩ = some (.int .i64 3) := blk_cell hbk 0; have q1 : w2.cell? ⟨w.heap.size, 1, none⟩ = some (.string t) := blk_cell hbk 1; have q2 : w2.cell? ⟨w.heap.size, 2, none⟩ = some (.slice A1 n1 c1) := blk_cell hbk 2; have q3 : w2.cell? ⟨w.heap.size, 3, none⟩ = some (.slice A2 n2 c2) := blk_cell hbk 3; have HB2 := Lib.hid (HB1.out.trans (hb2.mono HB1.out.size)); clear hb2 hbk)
        | (go_at_call 28; (with_reducible refine (HS.out _).mono ?_); rintro e' w3 ⟨rfl, hb3⟩; have HB3 := Lib.hid (by first | exact HB2.out.trans (hb3.mono HB2.out.size) | exact HB1.out.trans (hb3.mono HB1.out.size) : Below w.heap.size w w3); clear hb3)
        | (go_at_call 31; (with_reducible refine (HW.out _ HB1.out).mono ?_); rintro e' w3 ⟨rfl, hb3⟩; have HB3 := Lib.hid (HB1.out.trans (hb3.mono HB1.out.size)); clear hb3))
      go_ret
      exact ⟨by rw [HR2.out]; rfl, by first | exact HB3.out | exact HB2.out | exact HB1.out⟩
    · skip
      go_enter Tryd.func17, Tryd.ntmps17
      go_upto_region 5 with (fail)
      have hze := HZE.out
      go_wp2_with (first
        | (go_at_call 30; (with_reducible refine HV.out.mono ?_); rintro e' w2 ⟨rfl, hb2⟩; have hbk := HX.out _ hb2; have q0 : w2.cell? ⟨w.heap.size, 0, none⟩ = some (.int .i64 3) := blk_cell hbk 0; have q1 : w2.cell? ⟨w.heap.size, 1, none⟩ = some (.string t) := blk_cell hbk 1; have q2 : w2.cell? ⟨w.heap.size, 2, none⟩ = some (.slice A1 n1 c1) := blk_cell hbk 2; have q3 : w2.cell? ⟨w.heap.size, 3, none⟩ = some (.slice A2 n2 c2) := blk_cell hbk 3; have HB2 := Lib.hid (HB1.out.trans (hb2.mono HB1.out.size)); clear hb2 hbk)
        | (go_at_call 29; (with_reducible refine HM.out.mono ?_); rintro e' w2 ⟨rfl, hb2⟩; have hbk := HX.out _ hb2; have q0 : w2.cell? ⟨w.heap.size, 0, none⟩ = some (.int .i64 3) := blk_cell hbk 0; have q1 : w2.cell? ⟨w.heap.size, 1, none⟩ = some (.string t) := blk_cell hbk 1; have q2 : w2.cell? ⟨w.heap.size, 2, none⟩ = some (.slice A1 n1 c1) := blk_cell hbk 2; have q3 : w2.cell? ⟨w.heap.size, 3, none⟩ = some (.slice A2 n2 c2) := blk_cell hbk 3; have HB2 := Lib.hid (HB1.out.trans (hb2.mono HB1.out.size)); clear hb2 hbk)
        | (go_at_call 28; (with_reducible refine (HS.out _).mono ?_); rintro e' w3 ⟨rfl, hb3⟩; have HB3 := Lib.hid (by first | exact HB2.out.trans (hb3.mono HB2.out.size) | exact HB1.out.trans (hb3.mono HB1.out.size) : Below w.heap.size w w3); clear hb3)
        | (go_at_call 31; (with_reducible refine (HW.out _ HB1.out).mono ?_); rintro e' w3 ⟨rfl, hb3⟩; have HB3 := Lib.hid (HB1.out.trans (hb3.mono HB1.out.size)); clear hb3))
      go_ret
      exact ⟨by rw [HR2.out]; rfl, by first | exact HB3.out | exact HB2.out | exact HB1.out⟩
  by_cases k4 : k = 4
  · subst k4
    have HR2 : Hid (res = (vm && zs)) := by
      have := HRES.out
      rwa [if_neg (by decide), if_pos rfl] at this
    clear HRES
    cases vm
    · skip
      go_enter Tryd.func17, Tryd.ntmps17
      go_wp2_with (first
        | (go_at_call 30; (with_reducible refine HV.out.mono ?_); rintro e' w2 ⟨rfl, hb2⟩; have hbk := HX.out _ hb2; have q0 : w2.cell? ⟨w.heap.size, 0, none⟩ = some (.int .i64 4) := blk_cell hbk 0; have q1 : w2.cell? ⟨w.heap.size, 1, none⟩ = some (.string t) := blk_cell hbk 1; have q2 : w2.cell? ⟨w.heap.size, 2, none⟩ = some (.slice A1 n1 c1) := blk_cell hbk 2; have q3 : w2.cell? ⟨w.heap.size, 3, none⟩ = some (.slice A2 n2 c2) := blk_cell hbk 3; have HB2 := Lib.hid (HB1.out.trans (hb2.mono HB1.out.size)); clear hb2 hbk)
        | (go_at_call 29; (with_reducible refine HM.out.mono ?_); rintro e' w2 ⟨rfl, hb2⟩; have hbk := HX.out _ hb2; have q0 : w2.cell? ⟨w.heap.size, 0, none⟩ = some (.int .i64 4) := blk_cell hbk 0; have q1 : w2.cell? ⟨w.heap.size, 1, none⟩ = some (.string t) := blk_cell hbk 1; have q2 : w2.cell? ⟨w.heap.size, 2, none⟩ = some (.slice A1 n1 c1) := blk_cell hbk 2; have q3 : w2.cell? ⟨w.heap.size, 3, none⟩ = some (.slice A2 n2 c2) := blk_cell hbk 3; have HB2 := Lib.hid (HB1.out.trans (hb2.mono HB1.out.size)); clear hb2 hbk)
        | (go_at_call 28; (with_reducible refine (HS.out _).mono ?_); rintro e' w3 ⟨rfl, hb3⟩; have HB3 := Lib.hid (by first | exact HB2.out.trans (hb3.mono HB2.out.size) | exact HB1.out.trans (hb3.mono HB1.out.size) : Below w.heap.size w w3); clear hb3)
        | (go_at_call 31; (with_reducible refine (HW.out _ HB1.out).mono ?_); rintro e' w3 ⟨rfl, hb3⟩; have HB3 := Lib.hid (HB1.out.trans (hb3.mono HB1.out.size)); clear hb3))
      go_ret
      exact ⟨by rw [HR2.out]; rfl, by first | exact HB3.out | exact HB2.out | exact HB1.out⟩
    · skip
      go_enter Tryd.func17, Tryd.ntmps17
      go_wp2_with (first
        | (go_at_call 30; (with_reducible refine HV.out.mono ?_); rintro e' w2 ⟨rfl, hb2⟩; have hbk := HX.out _ hb2; have q0 : w2.cell? ⟨w.heap.size, 0, none⟩ = some (.int .i64 4) := blk_cell hbk 0; have q1 : w2.cell? ⟨w.heap.size, 1, none⟩ = some (.string t) := blk_cell hbk 1; have q2 : w2.cell? ⟨w.heap.size, 2, none⟩ = some (.slice A1 n1 c1) := blk_cell hbk 2; have q3 : w2.cell? ⟨w.heap.size, 3, none⟩ = some (.slice A2 n2 c2) := blk_cell hbk 3; have HB2 := Lib.hid (HB1.out.trans (hb2.mono HB1.out.size)); clear hb2 hbk)
        | (go_at_call 29; (with_reducible refine HM.out.mono ?_); rintro e' w2 ⟨rfl, hb2⟩; have hbk := HX.out _ hb2; have q0 : w2.cell? ⟨w.heap.size, 0, none⟩ = some (.int .i64 4) := blk_cell hbk 0; have q1 : w2.cell? ⟨w.heap.size, 1, none⟩ = some (.string t) := blk_cell hbk 1; have q2 : w2.cell? ⟨w.heap.size, 2, none⟩ = some (.slice A1 n1 c1) := blk_cell hbk 2; have q3 : w2.cell? ⟨w.heap.size, 3, none⟩ = some (.slice A2 n2 c2) := blk_cell hbk 3; have HB2 := Lib.hid (HB1.out.trans (hb2.mono HB1.out.size)); clear hb2 hbk)
        | (go_at_call 28; (with_reducible refine (HS.out _).mono ?_); rintro e' w3 ⟨rfl, hb3⟩; have HB3 := Lib.hid (by first | exact HB2.out.trans (hb3.mono HB2.out.size) | exact HB1.out.trans (hb3.mono HB1.out.size) : Below w.heap.size w w3); clear hb3)
        | (go_at_call 31; (with_reducible refine (HW.out _ HB1.out).mono ?_); rintro e' w3 ⟨rfl, hb3⟩; have HB3 := Lib.hid (HB1.out.trans (hb3.mono HB1.out.size)); clear hb3))
      go_ret
      exact ⟨by rw [HR2.out]; rfl, by first | exact HB3.out | exact HB2.out | exact HB1.out⟩
  by_cases k5 : k = 5
  · subst k5
    have HR2 : Hid (res = (vv && zs)) := by
      have := HRES.out
      rwa [if_neg (by decide), if_neg (by decide), if_pos rfl] at this
    clear HRES
    cases vv
    · skip
      go_enter Tryd.func17, Tryd.ntmps17
      go_wp2_with (first
        | (go_at_call 30; (with_reducible refine HV.out.mono ?_); rintro e' w2 ⟨rfl, hb2⟩; have hbk := HX.out _ hb2; have q0 : w2.cell? ⟨w.heap.size, 0, none⟩ = some (.int .i64 5) := blk_cell hbk 0; have q1 : w2.cell? ⟨w.heap.size, 1, none⟩ = some (.string t) := blk_cell hbk 1; have q2 : w2.cell? ⟨w.heap.size, 2, none⟩ = some (.slice A1 n1 c1) := blk_cell hbk 2; have q3 : w2.cell? ⟨w.heap.size, 3, none⟩ = some (.slice A2 n2 c2) := blk_cell hbk 3; have HB2 := Lib.hid (HB1.out.trans (hb2.mono HB1.out.size)); clear hb2 hbk)
        | (go_at_call 29; (with_reducible refine HM.out.mono ?_); rintro e' w2 ⟨rfl, hb2⟩; have hbk := HX.out _ hb2; have q0 : w2.cell? ⟨w.heap.size, 0, none⟩ = some (.int .i64 5) := blk_cell hbk 0; have q1 : w2.cell? ⟨w.heap.size, 1, none⟩ = some (.string t) := blk_cell hbk 1; have q2 : w2.cell? ⟨w.heap.size, 2, none⟩ = some (.slice A1 n1 c1) := blk_cell hbk 2; have q3 : w2.cell? ⟨w.heap.size, 3, none⟩ = some (.slice A2 n2 c2) := blk_cell hbk 3; have HB2 := Lib.hid (HB1.out.trans (hb2.mono HB1.out.size)); clear hb2 hbk)
        | (go_at_call 28; (with_reducible refine (HS.out _).mono ?_); rintro e' w3 ⟨rfl, hb3⟩; have HB3 := Lib.hid (by first | exact HB2.out.trans (hb3.mono HB2.out.size) | exact HB1.out.trans (hb3.mono HB1.out.size) : Below w.heap.size w w3); clear hb3)
        | (go_at_call 31; (with_reducible refine (HW.out _ HB1.out).mono ?_); rintro e' w3 ⟨rfl, hb3⟩; have HB3 := Lib.hid (HB1.out.trans (hb3.mono HB1.out.size)); clear hb3))
      go_ret
      exact ⟨by rw [HR2.out]; rfl, by first | exact HB3.out | exact HB2.out | exact HB1.out⟩
    · skip
      go_enter Tryd.func17, Tryd.ntmps17
      go_wp2_with (first
        | (go_at_call 30; (with_reducible refine HV.out.mono ?_); rintro e' w2 ⟨rfl, hb2⟩; have hbk := HX.out _ hb2; have q0 : w2.cell? ⟨w.heap.size, 0, none⟩ = some (.int .i64 5) := blk_cell hbk 0; have q1 : w2.cell? ⟨w.heap.size, 1, none⟩ = some (.string t) := blk_cell hbk 1; have q2 : w2.cell? ⟨w.heap.size, 2, none⟩ = some (.slice A1 n1 c1) := blk_cell hbk 2; have q3 : w2.cell? ⟨w.heap.size, 3, none⟩ = some (.slice A2 n2 c2) := blk_cell hbk 3; have HB2 := Lib.hid (HB1.out.trans (hb2.mono HB1.out.size)); clear hb2 hbk)
        | (go_at_call 29; (with_reducible refine HM.out.mono ?_); rintro e' w2 ⟨rfl, hb2⟩; have hbk := HX.out _ hb2; have q0 : w2.cell? ⟨w.heap.size, 0, none⟩ = some (.int .i64 5) := blk_cell hbk 0; have q1 : w2.cell? ⟨w.heap.size, 1, none⟩ = some (.string t) := blk_cell hbk 1; have q2 : w2.cell? ⟨w.heap.size, 2, none⟩ = some (.slice A1 n1 c1) := blk_cell hbk 2; have q3 : w2.cell? ⟨w.heap.size, 3, none⟩ = some (.slice A2 n2 c2) := blk_cell hbk 3; have HB2 := Lib.hid (HB1.out.trans (hb2.mono HB1.out.size)); clear hb2 hbk)
        | (go_at_call 28; (with_reducible refine (HS.out _).mono ?_); rintro e' w3 ⟨rfl, hb3⟩; have HB3 := Lib.hid (by first | exact HB2.out.trans (hb3.mono HB2.out.size) | exact HB1.out.trans (hb3.mono HB1.out.size) : Below w.heap.size w w3); clear hb3)
        | (go_at_call 31; (with_reducible refine (HW.out _ HB1.out).mono ?_); rintro e' w3 ⟨rfl, hb3⟩; have HB3 := Lib.hid (HB1.out.trans (hb3.mono HB1.out.size)); clear hb3))
      go_ret
      exact ⟨by rw [HR2.out]; rfl, by first | exact HB3.out | exact HB2.out | exact HB1.out⟩
  by_cases k6 : k = 6
  · subst k6
    have HR2 : Hid (res = (ze && (z1 && wi))) := by
      have := HRES.out
      rwa [if_neg (by decide), if_neg (by decide), if_neg (by decide), if_pos rfl] at this
    clear HRES
    cases ze <;> cases z1
    · skip
      go_enter Tryd.func17, Tryd.ntmps17
      go_upto_region 11 with (fail)
      have hze := HZE.out
      have hz1 := HZ1.out
      go_wp2_with (first
        | (go_at_call 30; (with_reducible refine HV.out.mono ?_); rintro e' w2 ⟨rfl, hb2⟩; have hbk := HX.out _ hb2; have q0 : w2.cell? ⟨w.heap.size, 0, none⟩ = some (.int .i64 6) := blk_cell hbk 0; have q1 : w2.cell? ⟨w.heap.size, 1, none⟩ = some (.string t) := blk_cell hbk 1; have q2 : w2.cell? ⟨w.heap.size, 2, none⟩ = some (.slice A1 n1 c1) := blk_cell hbk 2; have q3 : w2.cell? ⟨w.heap.size, 3, none⟩ = some (.slice A2 n2 c2) := blk_cell hbk 3; have HB2 := Lib.hid (HB1.out.trans (hb2.mono HB1.out.size)); clear hb2 hbk)
        | (go_at_call 29; (with_reducible refine HM.out.mono ?_); rintro e' w2 ⟨rfl, hb2⟩; have hbk := HX.out _ hb2; have q0 : w2.cell? ⟨w.heap.size, 0, none⟩ = some (.int .i64 6) := blk_cell hbk 0; have q1 : w2.cell? ⟨w.heap.size, 1, none⟩ = some (.string t) := blk_cell hbk 1; have q2 : w2.cell? ⟨w.heap.size, 2, none⟩ = some (.slice A1 n1 c1) := blk_cell hbk 2; have q3 : w2.cell? ⟨w.heap.size, 3, none⟩ = some (.slice A2 n2 c2) := blk_cell hbk 3; have HB2 := Lib.hid (HB1.out.trans (hb2.mono HB1.out.size)); clear hb2 hbk)
        | (go_at_call 28; (with_reducible refine (HS.out _).mono ?_); rintro e' w3 ⟨rfl, hb3⟩; have HB3 := Lib.hid (by first | exact HB2.out.trans (hb3.mono HB2.out.size) | exact HB1.out.trans (hb3.mono HB1.out.size) : Below w.heap.size w w3); clear hb3)
        | (go_at_call 31; (with_reducible refine (HW.out _ HB1.out).mono ?_); rintro e' w3 ⟨rfl, hb3⟩; have HB3 := Lib.hid (HB1.out.trans (hb3.mono HB1.out.size)); clear hb3))
      go_ret
      exact ⟨by rw [HR2.out]; rfl, by first | exact HB3.out | exact HB2.out | exact HB1.out⟩
    · skip
      go_enter Tryd.func17, Tryd.ntmps17
      go_upto_region 11 with (fail)
      have hze := HZE.out
      have hz1 := HZ1.out
      go_wp2_with (first
        | (go_at_call 30; (with_reducible refine HV.out.mono ?_); rintro e' w2 ⟨rfl, hb2⟩; have hbk := HX.out _ hb2; have q0 : w2.cell? ⟨w.heap.size, 0, none⟩ = some (.int .i64 6) := blk_cell hbk 0; have q1 : w2.cell? ⟨w.heap.size, 1, none⟩ = some (.string t) := blk_cell hbk 1; have q2 : w2.cell? ⟨w.heap.size, 2, none⟩ = some (.slice A1 n1 c1) := blk_cell hbk 2; have q3 : w2.cell? ⟨w.heap.size, 3, none⟩ = some (.slice A2 n2 c2) := blk_cell hbk 3; have HB2 := Lib.hid (HB1.out.trans (hb2.mono HB1.out.size)); clear hb2 hbk)
        | (go_at_call 29; (with_reducible refine HM.out.mono ?_); rintro e' w2 ⟨rfl, hb2⟩; have hbk := HX.out _ hb2; have q0 : w2.cell? ⟨w.heap.size, 0, none⟩ = some (.int .i64 6) := blk_cell hbk 0; have q1 : w2.cell? ⟨w.heap.size, 1, none⟩ = some (.string t) := blk_cell hbk 1; have q2 : w2.cell? ⟨w.heap.size, 2, none⟩ = some (.slice A1 n1 c1) := blk_cell hbk 2; have q3 : w2.cell? ⟨w.heap.size, 3, none⟩ = some (.slice A2 n2 c2) := blk_cell hbk 3; have HB2 := Lib.hid (HB1.out.trans (hb2.mono HB1.out.size)); clear hb2 hbk)
        | (go_at_call 28; (with_reducible refine (HS.out _).mono ?_); rintro e' w3 ⟨rfl, hb3⟩; have HB3 := Lib.hid (by first | exact HB2.out.trans (hb3.mono HB2.out.size) | exact HB1.out.trans (hb3.mono HB1.out.size) : Below w.heap.size w w3); clear hb3)
        | (go_at_call 31; (with_reducible refine (HW.out _ HB1.out).mono ?_); rintro e' w3 ⟨rfl, hb3⟩; have HB3 := Lib.hid (HB1.out.trans (hb3.mono HB1.out.size)); clear hb3))
      go_ret
      exact ⟨by rw [HR2.out]; rfl, by first | exact HB3.out | exact HB2.out | exact HB1.out⟩
    · skip
      go_enter Tryd.func17, Tryd.ntmps17
      go_upto_region 11 with (fail)
      have hze := HZE.out
      have hz1 := HZ1.out
      go_wp2_with (first
        | (go_at_call 30; (with_reducible refine HV.out.mono ?_); rintro e' w2 ⟨rfl, hb2⟩; have hbk := HX.out _ hb2; have q0 : w2.cell? ⟨w.heap.size, 0, none⟩ = some (.int .i64 6) := blk_cell hbk 0; have q1 : w2.cell? ⟨w.heap.size, 1, none⟩ = some (.string t) := blk_cell hbk 1; have q2 : w2.cell? ⟨w.heap.size, 2, none⟩ = some (.slice A1 n1 c1) := blk_cell hbk 2; have q3 : w2.cell? ⟨w.heap.size, 3, none⟩ = some (.slice A2 n2 c2) := blk_cell hbk 3; have HB2 := Lib.hid (HB1.out.trans (hb2.mono HB1.out.size)); clear hb2 hbk)
        | (go_at_call 29; (with_reducible refine HM.out.mono ?_); rintro e' w2 ⟨rfl, hb2⟩; have hbk := HX.out _ hb2; have q0 : w2.cell? ⟨w.heap.size, 0, none⟩ = some (.int .i64 6) := blk_cell hbk 0; have q1 : w2.cell? ⟨w.heap.size, 1, none⟩ = some (.string t) := blk_cell hbk 1; have q2 : w2.cell? ⟨w.heap.size, 2, none⟩ = some (.slice A1 n1 c1) := blk_cell hbk 2; have q3 : w2.cell? ⟨w.heap.size, 3, none⟩ = some (.slice A2 n2 c2) := blk_cell hbk 3; have HB2 := Lib.hid (HB1.out.trans (hb2.mono HB1.out.size)); clear hb2 hbk)
        | (go_at_call 28; (with_reducible refine (HS.out _).mono ?_); rintro e' w3 ⟨rfl, hb3⟩; have HB3 := Lib.hid (by first | exact HB2.out.trans (hb3.mono HB2.out.size) | exact HB1.out.trans (hb3.mono HB1.out.size) : Below w.heap.size w w3); clear hb3)
        | (go_at_call 31; (with_reducible refine (HW.out _ HB1.out).mono ?_); rintro e' w3 ⟨rfl, hb3⟩; have HB3 := Lib.hid (HB1.out.trans (hb3.mono HB1.out.size)); clear hb3))
      go_ret
      exact ⟨by rw [HR2.out]; rfl, by first | exact HB3.out | exact HB2.out | exact HB1.out⟩
    · skip
      go_enter Tryd.func17, Tryd.ntmps17
      go_upto_region 11 with (fail)
      have hze := HZE.out
      have hz1 := HZ1.out
      go_wp2_with (first
        | (go_at_call 30; (with_reducible refine HV.out.mono ?_); rintro e' w2 ⟨rfl, hb2⟩; have hbk := HX.out _ hb2; have q0 : w2.cell? ⟨w.heap.size, 0, none⟩ = some (.int .i64 6) := blk_cell hbk 0; have q1 : w2.cell? ⟨w.heap.size, 1, none⟩ = some (.string t) := blk_cell hbk 1; have q2 : w2.cell? ⟨w.heap.size, 2, none⟩ = some (.slice A1 n1 c1) := blk_cell hbk 2; have q3 : w2.cell? ⟨w.heap.size, 3, none⟩ = some (.slice A2 n2 c2) := blk_cell hbk 3; have HB2 := Lib.hid (HB1.out.trans (hb2.mono HB1.out.size)); clear hb2 hbk)
        | (go_at_call 29; (with_reducible refine HM.out.mono ?_); rintro e' w2 ⟨rfl, hb2⟩; have hbk := HX.out _ hb2; have q0 : w2.cell? ⟨w.heap.size, 0, none⟩ = some (.int .i64 6) := blk_cell hbk 0; have q1 : w2.cell? ⟨w.heap.size, 1, none⟩ = some (.string t) := blk_cell hbk 1; have q2 : w2.cell? ⟨w.heap.size, 2, none⟩ = some (.slice A1 n1 c1) := blk_cell hbk 2; have q3 : w2.cell? ⟨w.heap.size, 3, none⟩ = some (.slice A2 n2 c2) := blk_cell hbk 3; have HB2 := Lib.hid (HB1.out.trans (hb2.mono HB1.out.size)); clear hb2 hbk)
        | (go_at_call 28; (with_reducible refine (HS.out _).mono ?_); rintro e' w3 ⟨rfl, hb3⟩; have HB3 := Lib.hid (by first | exact HB2.out.trans (hb3.mono HB2.out.size) | exact HB1.out.trans (hb3.mono HB1.out.size) : Below w.heap.size w w3); clear hb3)
        | (go_at_call 31; (with_reducible refine (HW.out _ HB1.out).mono ?_); rintro e' w3 ⟨rfl, hb3⟩; have HB3 := Lib.hid (HB1.out.trans (hb3.mono HB1.out.size)); clear hb3))
      go_ret
      exact ⟨by rw [HR2.out]; rfl, by first | exact HB3.out | exact HB2.out | exact HB1.out⟩
  by_cases k7 : k = 7
  · subst k7
    have HR2 : Hid (res = (ze && (z2 && wi))) := by
      have := HRES.out
      rwa [if_neg (by decide), if_neg (by decide), if_neg (by decide), if_neg (by decide), if_pos rfl] at this
    clear HRES
    cases ze <;> cases z2
    · skip
      go_enter Tryd.func17, Tryd.ntmps17
      go_upto_region 13 with (fail)
      have hze := HZE.out
      have hz2 := HZ2.out
      go_wp2_with (first
        | (go_at_call 30; (with_reducible refine HV.out.mono ?_); rintro e' w2 ⟨rfl, hb2⟩; have hbk := HX.out _ hb2; have q0 : w2.cell? ⟨w.heap.size, 0, none⟩ = some (.int .i64 7) := blk_cell hbk 0; have q1 : w2.cell? ⟨w.heap.size, 1, none⟩ = some (.string t) := blk_cell hbk 1; have q2 : w2.cell? ⟨w.heap.size, 2, none⟩ = some (.slice A1 n1 c1) := blk_cell hbk 2; have q3 : w2.cell? ⟨w.heap.size, 3, none⟩ = some (.slice A2 n2 c2) := blk_cell hbk 3; have HB2 := Lib.hid (HB1.out.trans (hb2.mono HB1.out.size)); clear hb2 hbk)
        | (go_at_call 29; (with_reducible refine HM.out.mono ?_); rintro e' w2 ⟨rfl, hb2⟩; have hbk := HX.out _ hb2; have q0 : w2.cell? ⟨w.heap.size, 0, none⟩ = some (.int .i64 7) := blk_cell hbk 0; have q1 : w2.cell? ⟨w.heap.size, 1, none⟩ = some (.string t) := blk_cell hbk 1; have q2 : w2.cell? ⟨w.heap.size, 2, none⟩ = some (.slice A1 n1 c1) := blk_cell hbk 2; have q3 : w2.cell? ⟨w.heap.size, 3, none⟩ = some (.slice A2 n2 c2) := blk_cell hbk 3; have HB2 := Lib.hid (HB1.out.trans (hb2.mono HB1.out.size)); clear hb2 hbk)
        | (go_at_call 28; (with_reducible refine (HS.out _).mono ?_); rintro e' w3 ⟨rfl, hb3⟩; have HB3 := Lib.hid (by first | exact HB2.out.trans (hb3.mono HB2.out.size) | exact HB1.out.trans (hb3.mono HB1.out.size) : Below w.heap.size w w3); clear hb3)
        | (go_at_call 31; (with_reducible refine (HW.out _ HB1.out).mono ?_); rintro e' w3 ⟨rfl, hb3⟩; have HB3 := Lib.hid (HB1.out.trans (hb3.mono HB1.out.size)); clear hb3))
      go_ret
      exact ⟨by rw [HR2.out]; rfl, by first | exact HB3.out | exact HB2.out | exact HB1.out⟩
    · skip
      go_enter Tryd.func17, Tryd.ntmps17
      go_upto_region 13 with (fail)
      have hze := HZE.out
      have hz2 := HZ2.out
      go_wp2_with (first
        | (go_at_call 30; (with_reducible refine HV.out.mono ?_); rintro e' w2 ⟨rfl, hb2⟩; have hbk := HX.out _ hb2; have q0 : w2.cell? ⟨w.heap.size, 0, none⟩ = some (.int .i64 7) := blk_cell hbk 0; have q1 : w2.cell? ⟨w.heap.size, 1, none⟩ = some (.string t) := blk_cell hbk 1; have q2 : w2.cell? ⟨w.heap.size, 2, none⟩ = some (.slice A1 n1 c1) := blk_cell hbk 2; have q3 : w2.cell? ⟨w.heap.size, 3, none⟩ = some (.slice A2 n2 c2) := blk_cell hbk 3; have HB2 := Lib.hid (HB1.out.trans (hb2.mono HB1.out.size)); clear hb2 hbk)
        | (go_at_call 29; (with_reducible refine HM.out.mono ?_); rintro e' w2 ⟨rfl, hb2⟩; have hbk := HX.out _ hb2; have q0 : w2.cell? ⟨w.heap.size, 0, none⟩ = some (.int .i64 7) := blk_cell hbk 0; have q1 : w2.cell? ⟨w.heap.size, 1, none⟩ = some (.string t) := blk_cell hbk 1; have q2 : w2.cell? ⟨w.heap.size, 2, none⟩ = some (.slice A1 n1 c1) := blk_cell hbk 2; have q3 : w2.cell? ⟨w.heap.size, 3, none⟩ = some (.slice A2 n2 c2) := blk_cell hbk 3; have HB2 := Lib.hid (HB1.out.trans (hb2.mono HB1.out.size)); clear hb2 hbk)
        | (go_at_call 28; (with_reducible refine (HS.out _).mono ?_); rintro e' w3 ⟨rfl, hb3⟩; have HB3 := Lib.hid (by first | exact HB2.out.trans (hb3.mono HB2.out.size) | exact HB1.out.trans (hb3.mono HB1.out.size) : Below w.heap.size w w3); clear hb3)
        | (go_at_call 31; (with_reducible refine (HW.out _ HB1.out).mono ?_); rintro e' w3 ⟨rfl, hb3⟩; have HB3 := Lib.hid (HB1.out.trans (hb3.mono HB1.out.size)); clear hb3))
      go_ret
      exact ⟨by rw [HR2.out]; rfl, by first | exact HB3.out | exact HB2.out | exact HB1.out⟩
    · skip
      go_enter Tryd.func17, Tryd.ntmps17
      go_upto_region 13 with (fail)
      have hze := HZE.out
      have hz2 := HZ2.out
      go_wp2_with (first
        | (go_at_call 30; (with_reducible refine HV.out.mono ?_); rintro e' w2 ⟨rfl, hb2⟩; have hbk := HX.out _ hb2; have q0 : w2.cell? ⟨w.heap.size, 0, none⟩ = some (.int .i64 7) := blk_cell hbk 0; have q1 : w2.cell? ⟨w.heap.size, 1, none⟩ = some (.string t) := blk_cell hbk 1; have q2 : w2.cell? ⟨w.heap.size, 2, none⟩ = some (.slice A1 n1 c1) := blk_cell hbk 2; have q3 : w2.cell? ⟨w.heap.size, 3, none⟩ = some (.slice A2 n2 c2) := blk_cell hbk 3; have HB2 := Lib.hid (HB1.out.trans (hb2.mono HB1.out.size)); clear hb2 hbk)
        | (go_at_call 29; (with_reducible refine HM.out.mono ?_); rintro e' w2 ⟨rfl, hb2⟩; have hbk := HX.out _ hb2; have q0 : w2.cell? ⟨w.heap.size, 0, none⟩ = some (.int .i64 7) := blk_cell hbk 0; have q1 : w2.cell? ⟨w.heap.size, 1, none⟩ = some (.string t) := blk_cell hbk 1; have q2 : w2.cell? ⟨w.heap.size, 2, none⟩ = some (.slice A1 n1 c1) := blk_cell hbk 2; have q3 : w2.cell? ⟨w.heap.size, 3, none⟩ = some (.slice A2 n2 c2) := blk_cell hbk 3; have HB2 := Lib.hid (HB1.out.trans (hb2.mono HB1.out.size)); clear hb2 hbk)
        | (go_at_call 28; (with_reducible refine (HS.out _).mono ?_); rintro e' w3 ⟨rfl, hb3⟩; have HB3 := Lib.hid (by first | exact HB2.out.trans (hb3.mono HB2.out.size) | exact HB1.out.trans (hb3.mono HB1.out.size) : Below w.heap.size w w3); clear hb3)
        | (go_at_call 31; (with_reducible refine (HW.out _ HB1.out).mono ?_); rintro e' w3 ⟨rfl, hb3⟩; have HB3 := Lib.hid (HB1.out.trans (hb3.mono HB1.out.size)); clear hb3))
      go_ret
      exact ⟨by rw [HR2.out]; rfl, by first | exact HB3.out | exact HB2.out | exact HB1.out⟩
    · skip
      go_enter Tryd.func17, Tryd.ntmps17
      go_upto_region 13 with (fail)
      have hze := HZE.out
      have hz2 := HZ2.out
      go_wp2_with (first
        | (go_at_call 30; (with_reducible refine HV.out.mono ?_); rintro e' w2 ⟨rfl, hb2⟩; have hbk := HX.out _ hb2; have q0 : w2.cell? ⟨w.heap.size, 0, none⟩ = some (.int .i64 7) := blk_cell hbk 0; have q1 : w2.cell? ⟨w.heap.size, 1, none⟩ = some (.string t) := blk_cell hbk 1; have q2 : w2.cell? ⟨w.heap.size, 2, none⟩ = some (.slice A1 n1 c1) := blk_cell hbk 2; have q3 : w2.cell? ⟨w.heap.size, 3, none⟩ = some (.slice A2 n2 c2) := blk_cell hbk 3; have HB2 := Lib.hid (HB1.out.trans (hb2.mono HB1.out.size)); clear hb2 hbk)
        | (go_at_call 29; (with_reducible refine HM.out.mono ?_); rintro e' w2 ⟨rfl, hb2⟩; have hbk := HX.out _ hb2; have q0 : w2.cell? ⟨w.heap.size, 0, none⟩ = some (.int .i64 7) := blk_cell hbk 0; have q1 : w2.cell? ⟨w.heap.size, 1, none⟩ = some (.string t) := blk_cell hbk 1; have q2 : w2.cell? ⟨w.heap.size, 2, none⟩ = some (.slice A1 n1 c1) := blk_cell hbk 2; have q3 : w2.cell? ⟨w.heap.size, 3, none⟩ = some (.slice A2 n2 c2) := blk_cell hbk 3; have HB2 := Lib.hid (HB1.out.trans (hb2.mono HB1.out.size)); clear hb2 hbk)
        | (go_at_call 28; (with_reducible refine (HS.out _).mono ?_); rintro e' w3 ⟨rfl, hb3⟩; have HB3 := Lib.hid (by first | exact HB2.out.trans (hb3.mono HB2.out.size) | exact HB1.out.trans (hb3.mono HB1.out.size) : Below w.heap.size w w3); clear hb3)
        | (go_at_call 31; (with_reducible refine (HW.out _ HB1.out).mono ?_); rintro e' w3 ⟨rfl, hb3⟩; have HB3 := Lib.hid (HB1.out.trans (hb3.mono HB1.out.size)); clear hb3))
      go_ret
      exact ⟨by rw [HR2.out]; rfl, by first | exact HB3.out | exact HB2.out | exact HB1.out⟩
  have HR2 : Hid (res = false) := by
    have := HRES.out
    rwa [if_neg (by omega), if_neg k4, if_neg k5, if_neg k6, if_neg k7] at this
  clear HRES
  go_enter Tryd.func17, Tryd.ntmps17
  go_wp2_with (first
    | (go_at_call 30; (with_reducible refine HV.out.mono ?_); rintro e' w2 ⟨rfl, hb2⟩; have hbk := HX.out _ hb2; have q0 : w2.cell? ⟨w.heap.size, 0, none⟩ = some (.int .i64 k) := blk_cell hbk 0; have q1 : w2.cell? ⟨w.heap.size, 1, none⟩ = some (.string t) := blk_cell hbk 1; have q2 : w2.cell? ⟨w.heap.size, 2, none⟩ = some (.slice A1 n1 c1) := blk_cell hbk 2; have q3 : w2.cell? ⟨w.heap.size, 3, none⟩ = some (.slice A2 n2 c2) := blk_cell hbk 3; have HB2 := Lib.hid (HB1.out.trans (hb2.mono HB1.out.size)); clear hb2 hbk)
    | (go_at_call 29; (with_reducible refine HM.out.mono ?_); rintro e' w2 ⟨rfl, hb2⟩; have hbk := HX.out _ hb2; have q0 : w2.cell? ⟨w.heap.size, 0, none⟩ = some (.int .i64 k) := blk_cell hbk 0; have q1 : w2.cell? ⟨w.heap.size, 1, none⟩ = some (.string t) := blk_cell hbk 1; have q2 : w2.cell? ⟨w.heap.size, 2, none⟩ = some (.slice A1 n1 c1) := blk_cell hbk 2; have q3 : w2.cell? ⟨w.heap.size, 3, none⟩ = some (.slice A2 n2 c2) := blk_cell hbk 3; have HB2 := Lib.hid (HB1.out.trans (hb2.mono HB1.out.size)); clear hb2 hbk)
    | (go_at_call 28; (with_reducible refine (HS.out _).mono ?_); rintro e' w3 ⟨rfl, hb3⟩; have HB3 := Lib.hid (by first | exact HB2.out.trans (hb3.mono HB2.out.size) | exact HB1.out.trans (hb3.mono HB1.out.size) : Below w.heap.size w w3); clear hb3)
    | (go_at_call 31; (with_reducible refine (HW.out _ HB1.out).mono ?_); rintro e' w3 ⟨rfl, hb3⟩; have HB3 := Lib.hid (HB1.out.trans (hb3.mono HB1.out.size)); clear hb3))
  go_ret
  exact ⟨by rw [HR2.out]; rfl, by first | exact HB3.out | exact HB2.out | exact HB1.out⟩
theorem sound_any : ∀ n : Nat, n ≤ 1000 → SoundAt n
  | 0, _ => fun W F d k t A1 A2 n1 c1 n2 c2 x hV hE hF hT => by
    obtain ⟨e, rfl⟩ := hV.pos
    obtain ⟨k', t', ks, xs⟩ := x
    obtain ⟨e1, e2, ⟨B1, b1, e3, hc1, hk1⟩, B2, b2, e4, hc2, hx1⟩ := hV
    simp only [Value.slice.injEq] at e1 e2 e3 e4
    obtain ⟨rfl, rfl, rfl⟩ := e3
    obtain ⟨rfl, rfl, rfl⟩ := e4
    subst e1 e2
    have ht := hT.1
    unfold maxLen at ht
    exact sound_of _ _ A1 A2 _ c1 _ c2 hE (by omega) 0 false (fun W' _ => within_zero _ _ A1 A2 _ c1 _ c2)
  | n + 1, hn => fun W F d k t A1 A2 n1 c1 n2 c2 x hV hE hF hT => by
    have IH := sound_any n (by omega)
    obtain ⟨e, rfl⟩ := hV.pos
    obtain ⟨k', t', ks, xs⟩ := x
    have hVV := hV
    obtain ⟨e1, e2, ⟨B1, b1, e3, hc1, hk1⟩, B2, b2, e4, hc2, hx1⟩ := hV
    simp only [Value.slice.injEq] at e1 e2 e3 e4
    obtain ⟨rfl, rfl, rfl⟩ := e3
    obtain ⟨rfl, rfl, rfl⟩ := e4
    subst e1 e2
    obtain ⟨ht, h2, h3, h4, h5⟩ := hT
    have ht' := ht
    unfold maxLen at ht'
    refine sound_of _ _ A1 A2 _ c1 _ c2 hE (by omega) ((n + 1 : Nat) : Int) (ks.all (fun u => Lib.validD u.data.toList) && xs.all (soundJ n)) (fun W' hb => ?_)
    obtain ⟨-, -, ⟨B1, b1, e3, hc1, hk1⟩, B2, b2, e4, hc2, hx1⟩ := hVV.keep (fun g hg => ⟨hg, hb.block g (hF g hg)⟩)
    simp only [Value.slice.injEq] at e3 e4
    obtain ⟨rfl, -, -⟩ := e3
    obtain ⟨rfl, -, -⟩ := e4
    exact within_step (by omega) IH (hE.on hb) hk1 hx1 (fun g hg => Nat.lt_of_lt_of_le (hF g hg) hb.size) h3 h4 h2 h5
end Go.Proofs.YtmjooghfghmngaaDoor
