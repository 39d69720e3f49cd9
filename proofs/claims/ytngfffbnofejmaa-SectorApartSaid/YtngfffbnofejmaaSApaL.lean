/- Law SectorApart: the walk. -/
import Derived.Test.YtngfffbnofejmaaSApa
namespace Go.Proofs.Ytngfffbnofejmaa
open Go.RowKit Go.Lib Go.ChangeMaps Go.MapKept
set_option maxRecDepth 10000 in
set_option maxHeartbeats 8000000 in
theorem apart_walk {W : World} {A : Option Addr} {l : List AV} {cap : Nat} (h : ActsAt W A l) (hl : l.length ≤ 9223372036854775807) {A2 : Option Addr} {l2 : List AV} {cap2 : Nat} (h2 : ActsAt W A2 l2) (hl2 : l2.length ≤ 9223372036854775807) (c : Nat) (hc : c < 256) :
    Calls Try.prog 6 #[.slice A l.length cap, .slice A2 l2.length cap2, .int .u8 (c : Nat)] W fun e w' => e = .returned (.bool true) ∧ Below W.heap.size W w' := by
  obtain ⟨cb, rfl⟩ : ∃ cb : UInt8, c = cb.toNat := ⟨UInt8.ofNat c, by rw [UInt8.toNat_ofNat']; omega⟩
  clear hc
  have HGR := Lib.hid (grown_any (cap := cap) h hl)
  have HAN := Lib.hid answers_any
  have HA2 := Lib.hid h2
  have HL2 := Lib.hid hl2
  clear h hl h2 hl2
  go_enter Try.func6, Try.ntmps6
  go_upto_region 4 with (first | (go_at_call 13; refine HGR.out.mono ?_; rintro e' w0 ⟨g, r, rfl, hg⟩; have HG0 := Lib.hid hg; clear hg) | (go_at_call 9; refine (HAN.out w0).mono ?_; rintro e' w1 ⟨rfl, hb⟩; have HB1 := Lib.hid hb; clear hb))
  obtain ⟨hb0, T, R, st, hT, hR, hbt0, hll, hsz⟩ := HG0.out
  have HBT := Lib.hid (hbt0.grow HB1.out)
  have HB01 := Lib.hid (hb0.trans (HB1.out.mono hb0.size))
  have HT := Lib.hid hT
  have HLL := Lib.hid hll
  have HSZ := Lib.hid hsz
  have HCP := Lib.hid (Copy_any HBT.out.d (by omega))
  clear hb0 hT hR hbt0 hll hsz
  go_upto_region 5 with (go_at_call 10; refine HCP.out.mono ?_; rintro e' w2 ⟨x, Tx, rfl, hbx, htx, hdx⟩; have HX2 : Hid (Beside w1 w2 x 100) := Lib.hid ⟨hbx, Tx, st, htx, hdx, HLL.out⟩; clear hbx htx hdx)
  go_wp2_with fail
  go_loopg [10] 50 (fun m i wr => ∃ k : Nat, i = .int .i64 k ∧ k ≤ 50 ∧ k ≤ l2.length ∧ m = 50 - k ∧ Hid (Beside w1 wr x (100 + k)))
  case atStart => exact ⟨0, rfl, Nat.zero_le _, Nat.zero_le _, rfl, HX2⟩
  case round =>
    obtain ⟨k, rfl, hk, hkl, rfl, HQ⟩ := hrel
    have HKK := Lib.hid hk
    have HDW : Hid (DI W wr st g) := Lib.hid ⟨T, HB01.out.trans (HQ.out.1.mono HB01.out.size), HT.out, (HBT.out.grow HQ.out.1).d⟩
    have HAL := Lib.hid (alike_any (HBT.out.grow HQ.out.1) (by have := HLL.out; omega))
    by_cases h1 : k < l2.length
    · have h1' : (k : Int) < (l2.length : Int) := by omega
      have h0' : (0 : Int) ≤ (k : Int) := by omega
      by_cases h2 : k < 50
      · have h2' : (k : Int) < 50 := by omega
        have hbu := Below.alloc (Below.refl wr.heap.size wr) (Nat.le_refl _) (Obj.cells #[.int .i64 (6 : Nat), .slice none 0 0, .int .i64 0, .int .i64 0, .bool false] 31 (0, 0))
        have hbw := HDW.out.below
        obtain ⟨b, o, rfl, hlt, hok, c0, c1, c2, c3, c4⟩ := act_at (HA2.out.on (hbw.trans (hbu.mono hbw.size))) h1
        have hac := HQ.out.act (by omega) l2[k] hok
        generalize l2[k] = a at *
        obtain ⟨kd, ps, fl, od, mk⟩ := a
        obtain ⟨u, hu⟩ : ∃ u, wr.alloc (Obj.cells #[.int .i64 6, .slice none 0 0, .int .i64 0, .int .i64 0, .bool false] 31 (0, 0)) = u := ⟨_, rfl⟩
        have hu' : wr.alloc (Obj.cells #[.int .i64 (6 : Nat), .slice none 0 0, .int .i64 0, .int .i64 0, .bool false] 31 (0, 0)) = u := hu
        obtain ⟨r2, hr2⟩ : ∃ r2, wr.heap.size = r2 := ⟨_, rfl⟩
        rw [hu'] at c0 c1 c2 c3 c4 hac hlt
        rw [hr2] at hac
        have HAC := Lib.hid hac
        have HLT := Lib.hid h2
        have HLL2 := Lib.hid h1
        dsimp only at c0 c1 c2 c3 c4 HAC
        clear hbu hbw hac hu' hok hlt
        go_wp2_with (go_at_call 11; refine HAC.out.mono ?_; rintro e' w3 ⟨bq, rfl, hw3⟩; have HX3 := Lib.hid hw3; clear hw3)
        go_roundg (50 - (k + 1))
        case measure => have := HLT.out; omega
        case rel => exact ⟨k + 1, by go_num, by have := HLT.out; omega, by have := HLL2.out; omega, rfl, HX3⟩
      · have h2' : ¬ (k : Int) < 50 := by omega
        have hend : True := trivial
        go_upto_region 11 with (go_at_call 12; refine HAL.out.mono ?_; rintro e' w3 ⟨rfl, hb3⟩; have HD3 := Lib.hid (HDW.out.grow hb3); clear hb3)
        obtain ⟨D, hD⟩ : ∃ D, Hid (D = dataL cb false) := ⟨_, Lib.hid rfl⟩
        have HDL : Hid (D.length = 512 ∧ D.getD 5 0 = cb) := Lib.hid (by rw [hD.out]; exact dataL_five cb)
        have hdat : Calls Try.prog 21 #[.int .u8 (cb.toNat : Nat), .bool false] w3 fun e w' => ∃ v, e = .returned v ∧ BRow w3 v D w' := by rw [hD.out]; exact data_any w3 cb false
        have HDAT := Lib.hid hdat
        clear hdat
        go_upto_region 12 with (go_at_call 21; refine HDAT.out.mono ?_; rintro e' w4 ⟨v4, rfl, hv4⟩; have HV4 := Lib.hid hv4; clear hv4)
        obtain ⟨gb, cap4, rfl, -, -⟩ := brow_own HV4.out (by rw [HDL.out.1]; decide)
        have hwr := HD3.out.write (by have := HLL.out; omega) (by rw [HDL.out.1]; decide) 3 HV4.out
        rw [HDL.out.1] at hwr
        rw [HDL.out.1]
        obtain ⟨E, hE⟩ : ∃ E, writeE st 3 D = E := ⟨_, rfl⟩
        rw [hE] at hwr
        have HWR := Lib.hid hwr
        have HE := Lib.hid hE
        clear hwr hE
        by_cases hz : E = 0
        · have HOK : Hid ((writeS st 3 D).out = false ∧ (writeS st 3 D).sz = st.sz ∧ nowL (writeS st 3 D).log 3 = D) := Lib.hid (by
            have h := write_ok (i := 3) (show writeE st ((3 : Nat) : Int) D = 0 by rw [← hz]; exact HE.out)
            exact ⟨h.1, h.2.1, h.2.2.2⟩)
          subst hz
          have HFR : Hid (∀ w5, OI W w5 (writeS st 3 D) g gb 512 → (∃ x, w5.cell? ⟨gb, 5, none⟩ = some x) ∧ w5.frozen? ⟨gb, 5, none⟩ = false) := Lib.hid fun w5 h => h.free (by decide)
          go_upto_region 15 with (go_at_call 22; refine HWR.out.mono ?_; rintro e' w5 ⟨rfl, ho5⟩; have HO5 := Lib.hid ho5; obtain ⟨⟨x5, kc5⟩, kf5⟩ := HFR.out _ ho5; clear ho5)
          clear kc5 kf5
          obtain ⟨u5, hu5⟩ : ∃ u, w5.setCell ⟨gb, 5, none⟩ (.int .u8 (IntKind.u8.wrap ((cb.toNat : Nat) + 1))) = u := ⟨_, rfl⟩
          have HD5 : Hid (DI W u5 (writeS st 3 D) g) := Lib.hid (by rw [← hu5]; exact (HO5.out.set 5 _).di)
          try rw [hu5]
          try rw [IntKind.wrap_u8] at hu5
          try rw [hu5]
          clear hu5
          have HRR : Hid (∀ w5, DI W w5 (writeS st 3 D) g → Calls Try.prog 16 #[.pointer (some ⟨g, 0, none⟩), .int .i64 3] w5 fun e w' => ∃ v, e = .returned (.tuple #[v, .int .i64 0]) ∧ BRow w5 v D w') := Lib.hid fun w5 h => by
            have h3 := h.read HOK.out.1 (i := 3) (by rw [HOK.out.2.1, HSZ.out]; decide) (by rw [HOK.out.2.1, HSZ.out]; decide)
            rw [HOK.out.2.2] at h3
            exact h3
          have HRD := Lib.hid (HRR.out _ HD5.out)
          go_upto_region 16 with (go_at_call 16; refine HRD.out.mono ?_; rintro e' w6 ⟨v6, rfl, hv6⟩; have HV6 := Lib.hid hv6; clear hv6)
          obtain ⟨g6, cap6, rfl, -, -⟩ := brow_own HV6.out (by rw [HDL.out.1]; decide)
          have k6 := brow_cell HV6.out (i := 5) (by rw [HDL.out.1]; decide)
          have ho6 := HD5.out.row (by rw [HDL.out.1]; decide) HV6.out
          rw [HDL.out.2] at k6
          rw [HDL.out.1] at ho6
          rw [HDL.out.1]
          have HO6 := Lib.hid ho6
          clear ho6
          go_upto_region 17 with (fail)
          clear k6
          go_wp2_with fail
          go_loopg [16] 512 (fun m i wq => ∃ k : Nat, i = .int .i64 k ∧ k ≤ 512 ∧ m = 512 - k ∧ Hid (OI W wq (writeS st 3 D) g g6 512))
          case atStart => exact ⟨0, rfl, Nat.zero_le _, rfl, HO6⟩
          case round =>
            obtain ⟨k, rfl, hk, rfl, HI⟩ := hrel
            by_cases hlt : k < 512
            · have hl1 : (k : Int) < 512 := by omega
              have hl0 : (0 : Int) ≤ (k : Int) := by omega
              have HK2 := Lib.hid hlt
              obtain ⟨⟨x7, kc7⟩, kf7⟩ := HI.out.free hlt
              clear hk hlt
              go_wp2_with fail
              go_roundg (512 - (k + 1))
              case measure => have := HK2.out; omega
              case rel => exact ⟨k + 1, by go_num, by have := HK2.out; omega, rfl, Lib.hid (HI.out.set _ _)⟩
            · have hl1 : ¬ (k : Int) < 512 := by omega
              have HRD8 := Lib.hid (HRR.out _ HI.out.di)
              go_upto_region 22 with (go_at_call 16; refine HRD8.out.mono ?_; rintro e' w8 ⟨v8, rfl, hv8⟩; have HV8 := Lib.hid hv8; clear hv8)
              obtain ⟨g8, cap8, rfl, -, -⟩ := brow_own HV8.out (by rw [HDL.out.1]; decide)
              have k8 := brow_cell HV8.out (i := 5) (by rw [HDL.out.1]; decide)
              rw [HDL.out.2] at k8
              rw [HDL.out.1]
              have HEND := Lib.hid (HI.out.di.grow HV8.out.1).below
              go_wp2_with (first
                | (go_at_call 16; refine (Read_nil _ _).mono ?_; rintro e' wz ⟨rfl, hwz⟩; have hwz := hwz.symm; subst hwz)
                | (go_at_call 22; refine (Write_nil _ _ _ _ _).mono ?_; rintro e' wz ⟨rfl, hwz⟩; have hwz := hwz.symm; subst hwz)
                | (go_at_call 14; refine (Barrier_nil _).mono ?_; rintro e' wz ⟨rfl, hwz⟩; have hwz := hwz.symm; subst hwz)
                | (go_at_call 23; refine (Limit_nil _ _).mono ?_; rintro e' wz ⟨rfl, hwz⟩; have hwz := hwz.symm; subst hwz)
                | (go_at_call 17; refine (Crash_nil _ 0).mono ?_; rintro e' wy ⟨rfl, hby⟩; have HY := Lib.hid (HEND.out.trans (hby.mono HEND.out.size)); clear hby)
                | (go_at_call 24; refine (Len_nil _).mono ?_; rintro e' wz ⟨rfl, hwz⟩; have hwz := hwz.symm; subst hwz)
                | (go_at_call 19; refine (Down_nil _).mono ?_; rintro e' wz ⟨rfl, hwz⟩; have hwz := hwz.symm; subst hwz)
                | (go_at_call 18; refine (Unsure_nil _).mono ?_; rintro e' wz ⟨rfl, hwz⟩; have hwz := hwz.symm; subst hwz)
                | (go_at_call 10; refine (Copy_nil _).mono ?_; rintro e' wz ⟨rfl, hwz⟩; have hwz := hwz.symm; subst hwz))
              go_ret
              exact ⟨rfl, HY.out⟩
        · have hz1 : (E == 0) = false := by rw [beq_eq_false_iff_ne]; exact hz
          go_upto_region 24 with (go_at_call 22; refine HWR.out.mono ?_; rintro e' w5 ⟨rfl, ho5⟩; have HEND := Lib.hid ho5.below; clear ho5)
          go_wp2_with (first
            | (go_at_call 16; refine (Read_nil _ _).mono ?_; rintro e' wz ⟨rfl, hwz⟩; have hwz := hwz.symm; subst hwz)
            | (go_at_call 22; refine (Write_nil _ _ _ _ _).mono ?_; rintro e' wz ⟨rfl, hwz⟩; have hwz := hwz.symm; subst hwz)
            | (go_at_call 14; refine (Barrier_nil _).mono ?_; rintro e' wz ⟨rfl, hwz⟩; have hwz := hwz.symm; subst hwz)
            | (go_at_call 23; refine (Limit_nil _ _).mono ?_; rintro e' wz ⟨rfl, hwz⟩; have hwz := hwz.symm; subst hwz)
            | (go_at_call 17; refine (Crash_nil _ 0).mono ?_; rintro e' wy ⟨rfl, hby⟩; have HY := Lib.hid (HEND.out.trans (hby.mono HEND.out.size)); clear hby)
            | (go_at_call 24; refine (Len_nil _).mono ?_; rintro e' wz ⟨rfl, hwz⟩; have hwz := hwz.symm; subst hwz)
            | (go_at_call 19; refine (Down_nil _).mono ?_; rintro e' wz ⟨rfl, hwz⟩; have hwz := hwz.symm; subst hwz)
            | (go_at_call 18; refine (Unsure_nil _).mono ?_; rintro e' wz ⟨rfl, hwz⟩; have hwz := hwz.symm; subst hwz)
            | (go_at_call 10; refine (Copy_nil _).mono ?_; rintro e' wz ⟨rfl, hwz⟩; have hwz := hwz.symm; subst hwz))
          go_ret
          exact ⟨rfl, HY.out⟩
    · have h1' : ¬ (k : Int) < (l2.length : Int) := by omega
      have hend : True := trivial
      go_upto_region 11 with (go_at_call 12; refine HAL.out.mono ?_; rintro e' w3 ⟨rfl, hb3⟩; have HD3 := Lib.hid (HDW.out.grow hb3); clear hb3)
      obtain ⟨D, hD⟩ : ∃ D, Hid (D = dataL cb false) := ⟨_, Lib.hid rfl⟩
      have HDL : Hid (D.length = 512 ∧ D.getD 5 0 = cb) := Lib.hid (by rw [hD.out]; exact dataL_five cb)
      have hdat : Calls Try.prog 21 #[.int .u8 (cb.toNat : Nat), .bool false] w3 fun e w' => ∃ v, e = .returned v ∧ BRow w3 v D w' := by rw [hD.out]; exact data_any w3 cb false
      have HDAT := Lib.hid hdat
      clear hdat
      go_upto_region 12 with (go_at_call 21; refine HDAT.out.mono ?_; rintro e' w4 ⟨v4, rfl, hv4⟩; have HV4 := Lib.hid hv4; clear hv4)
      obtain ⟨gb, cap4, rfl, -, -⟩ := brow_own HV4.out (by rw [HDL.out.1]; decide)
      have hwr := HD3.out.write (by have := HLL.out; omega) (by rw [HDL.out.1]; decide) 3 HV4.out
      rw [HDL.out.1] at hwr
      rw [HDL.out.1]
      obtain ⟨E, hE⟩ : ∃ E, writeE st 3 D = E := ⟨_, rfl⟩
      rw [hE] at hwr
      have HWR := Lib.hid hwr
      have HE := Lib.hid hE
      clear hwr hE
      by_cases hz : E = 0
      · have HOK : Hid ((writeS st 3 D).out = false ∧ (writeS st 3 D).sz = st.sz ∧ nowL (writeS st 3 D).log 3 = D) := Lib.hid (by
          have h := write_ok (i := 3) (show writeE st ((3 : Nat) : Int) D = 0 by rw [← hz]; exact HE.out)
          exact ⟨h.1, h.2.1, h.2.2.2⟩)
        subst hz
        have HFR : Hid (∀ w5, OI W w5 (writeS st 3 D) g gb 512 → (∃ x, w5.cell? ⟨gb, 5, none⟩ = some x) ∧ w5.frozen? ⟨gb, 5, none⟩ = false) := Lib.hid fun w5 h => h.free (by decide)
        go_upto_region 15 with (go_at_call 22; refine HWR.out.mono ?_; rintro e' w5 ⟨rfl, ho5⟩; have HO5 := Lib.hid ho5; obtain ⟨⟨x5, kc5⟩, kf5⟩ := HFR.out _ ho5; clear ho5)
        clear kc5 kf5
        obtain ⟨u5, hu5⟩ : ∃ u, w5.setCell ⟨gb, 5, none⟩ (.int .u8 (IntKind.u8.wrap ((cb.toNat : Nat) + 1))) = u := ⟨_, rfl⟩
        have HD5 : Hid (DI W u5 (writeS st 3 D) g) := Lib.hid (by rw [← hu5]; exact (HO5.out.set 5 _).di)
        try rw [hu5]
        try rw [IntKind.wrap_u8] at hu5
        try rw [hu5]
        clear hu5
        have HRR : Hid (∀ w5, DI W w5 (writeS st 3 D) g → Calls Try.prog 16 #[.pointer (some ⟨g, 0, none⟩), .int .i64 3] w5 fun e w' => ∃ v, e = .returned (.tuple #[v, .int .i64 0]) ∧ BRow w5 v D w') := Lib.hid fun w5 h => by
          have h3 := h.read HOK.out.1 (i := 3) (by rw [HOK.out.2.1, HSZ.out]; decide) (by rw [HOK.out.2.1, HSZ.out]; decide)
          rw [HOK.out.2.2] at h3
          exact h3
        have HRD := Lib.hid (HRR.out _ HD5.out)
        go_upto_region 16 with (go_at_call 16; refine HRD.out.mono ?_; rintro e' w6 ⟨v6, rfl, hv6⟩; have HV6 := Lib.hid hv6; clear hv6)
        obtain ⟨g6, cap6, rfl, -, -⟩ := brow_own HV6.out (by rw [HDL.out.1]; decide)
        have k6 := brow_cell HV6.out (i := 5) (by rw [HDL.out.1]; decide)
        have ho6 := HD5.out.row (by rw [HDL.out.1]; decide) HV6.out
        rw [HDL.out.2] at k6
        rw [HDL.out.1] at ho6
        rw [HDL.out.1]
        have HO6 := Lib.hid ho6
        clear ho6
        go_upto_region 17 with (fail)
        clear k6
        go_wp2_with fail
        go_loopg [16] 512 (fun m i wq => ∃ k : Nat, i = .int .i64 k ∧ k ≤ 512 ∧ m = 512 - k ∧ Hid (OI W wq (writeS st 3 D) g g6 512))
        case atStart => exact ⟨0, rfl, Nat.zero_le _, rfl, HO6⟩
        case round =>
          obtain ⟨k, rfl, hk, rfl, HI⟩ := hrel
          by_cases hlt : k < 512
          · have hl1 : (k : Int) < 512 := by omega
            have hl0 : (0 : Int) ≤ (k : Int) := by omega
            have HK2 := Lib.hid hlt
            obtain ⟨⟨x7, kc7⟩, kf7⟩ := HI.out.free hlt
            clear hk hlt
            go_wp2_with fail
            go_roundg (512 - (k + 1))
            case measure => have := HK2.out; omega
            case rel => exact ⟨k + 1, by go_num, by have := HK2.out; omega, rfl, Lib.hid (HI.out.set _ _)⟩
          · have hl1 : ¬ (k : Int) < 512 := by omega
            have HRD8 := Lib.hid (HRR.out _ HI.out.di)
            go_upto_region 22 with (go_at_call 16; refine HRD8.out.mono ?_; rintro e' w8 ⟨v8, rfl, hv8⟩; have HV8 := Lib.hid hv8; clear hv8)
            obtain ⟨g8, cap8, rfl, -, -⟩ := brow_own HV8.out (by rw [HDL.out.1]; decide)
            have k8 := brow_cell HV8.out (i := 5) (by rw [HDL.out.1]; decide)
            rw [HDL.out.2] at k8
            rw [HDL.out.1]
            have HEND := Lib.hid (HI.out.di.grow HV8.out.1).below
            go_wp2_with (first
              | (go_at_call 16; refine (Read_nil _ _).mono ?_; rintro e' wz ⟨rfl, hwz⟩; have hwz := hwz.symm; subst hwz)
              | (go_at_call 22; refine (Write_nil _ _ _ _ _).mono ?_; rintro e' wz ⟨rfl, hwz⟩; have hwz := hwz.symm; subst hwz)
              | (go_at_call 14; refine (Barrier_nil _).mono ?_; rintro e' wz ⟨rfl, hwz⟩; have hwz := hwz.symm; subst hwz)
              | (go_at_call 23; refine (Limit_nil _ _).mono ?_; rintro e' wz ⟨rfl, hwz⟩; have hwz := hwz.symm; subst hwz)
              | (go_at_call 17; refine (Crash_nil _ 0).mono ?_; rintro e' wy ⟨rfl, hby⟩; have HY := Lib.hid (HEND.out.trans (hby.mono HEND.out.size)); clear hby)
              | (go_at_call 24; refine (Len_nil _).mono ?_; rintro e' wz ⟨rfl, hwz⟩; have hwz := hwz.symm; subst hwz)
              | (go_at_call 19; refine (Down_nil _).mono ?_; rintro e' wz ⟨rfl, hwz⟩; have hwz := hwz.symm; subst hwz)
              | (go_at_call 18; refine (Unsure_nil _).mono ?_; rintro e' wz ⟨rfl, hwz⟩; have hwz := hwz.symm; subst hwz)
              | (go_at_call 10; refine (Copy_nil _).mono ?_; rintro e' wz ⟨rfl, hwz⟩; have hwz := hwz.symm; subst hwz))
            go_ret
            exact ⟨rfl, HY.out⟩
      · have hz1 : (E == 0) = false := by rw [beq_eq_false_iff_ne]; exact hz
        go_upto_region 24 with (go_at_call 22; refine HWR.out.mono ?_; rintro e' w5 ⟨rfl, ho5⟩; have HEND := Lib.hid ho5.below; clear ho5)
        go_wp2_with (first
          | (go_at_call 16; refine (Read_nil _ _).mono ?_; rintro e' wz ⟨rfl, hwz⟩; have hwz := hwz.symm; subst hwz)
          | (go_at_call 22; refine (Write_nil _ _ _ _ _).mono ?_; rintro e' wz ⟨rfl, hwz⟩; have hwz := hwz.symm; subst hwz)
          | (go_at_call 14; refine (Barrier_nil _).mono ?_; rintro e' wz ⟨rfl, hwz⟩; have hwz := hwz.symm; subst hwz)
          | (go_at_call 23; refine (Limit_nil _ _).mono ?_; rintro e' wz ⟨rfl, hwz⟩; have hwz := hwz.symm; subst hwz)
          | (go_at_call 17; refine (Crash_nil _ 0).mono ?_; rintro e' wy ⟨rfl, hby⟩; have HY := Lib.hid (HEND.out.trans (hby.mono HEND.out.size)); clear hby)
          | (go_at_call 24; refine (Len_nil _).mono ?_; rintro e' wz ⟨rfl, hwz⟩; have hwz := hwz.symm; subst hwz)
          | (go_at_call 19; refine (Down_nil _).mono ?_; rintro e' wz ⟨rfl, hwz⟩; have hwz := hwz.symm; subst hwz)
          | (go_at_call 18; refine (Unsure_nil _).mono ?_; rintro e' wz ⟨rfl, hwz⟩; have hwz := hwz.symm; subst hwz)
          | (go_at_call 10; refine (Copy_nil _).mono ?_; rintro e' wz ⟨rfl, hwz⟩; have hwz := hwz.symm; subst hwz))
        go_ret
        exact ⟨rfl, HY.out⟩
end Go.Proofs.Ytngfffbnofejmaa
