/- Law SectorActs: the walk. -/
import Derived.Test.YtngfffbnofejmaaSGrw
import Derived.Test.YtngfffbnofejmaaSAlk
namespace Go.Proofs.Ytngfffbnofejmaa
open Go.RowKit Go.Lib Go.ChangeMaps Go.MapKept
theorem Grown.below {W W1 W2 : World} {g r n m : Nat} (h : Grown W W1 g r n m) (hb : Below W1.heap.size W1 W2) : Grown W W2 g r n m := by
  obtain ⟨h0, T, R, st, h1, h2, h3, h4, h5⟩ := h
  exact ⟨h0.trans (hb.mono h0.size), T, R, st, h1, h2, h3.grow hb, h4, h5⟩
/-- A copy goes on. -/
theorem Grown.copy {W W1 : World} {g r n m : Nat} (h : Grown W W1 g r n m) (hm : m ≤ 50000) : Calls Try.prog 10 #[.pointer (some ⟨g, 0, none⟩)] W1 fun e w' => ∃ g', e = .returned (.pointer (some ⟨g', 0, none⟩)) ∧ Grown W w' g' r n m ∧ Below W1.heap.size W1 w' := by
  obtain ⟨h0, T, R, st, h1, h2, h3, h4, h5⟩ := h
  refine (Copy_any h3.d (by omega)).mono fun e w' ⟨g', T', he, hb, ht, hd⟩ => ⟨g', he, ⟨h0.trans (hb.mono h0.size), T', R, st, fun k e => by have := ht k e; have := h0.size; omega, h2, ⟨hd, (h3.grow hb).w, fun k e e2 => by have := ht k e; have := h3.w.ter k e2; omega⟩, h4, h5⟩, hb⟩
set_option maxHeartbeats 4000000 in
theorem acts_walk {W : World} (n : Int) (hn : In64 n) {A : Option Addr} {l : List AV} {cap : Nat} (h : ActsAt W A l) (hl : l.length ≤ 9223372036854775807) :
    Calls Try.prog 3 #[.int .i64 n, .slice A l.length cap] W fun e w' => e = .returned (.bool true) ∧ Below W.heap.size W w' := by
  have HA := Lib.hid h
  have HLV := Lib.hid hl
  have HAN := Lib.hid answers_any
  clear h
  by_cases hok : newOk n
  · obtain ⟨nn, rfl⟩ : ∃ nn : Nat, n = nn := ⟨n.toNat, by unfold newOk at hok; omega⟩
    have HNW := Lib.hid (New_good W nn hok)
    have g1 : (1 : Int) ≤ (nn : Int) := hok.1
    have g2 : (nn : Int) ≤ 65536 := hok.2
    have HN5 := Lib.hid (show nn ≤ 65536 by omega)
    clear hok hn
    go_enter Try.func3, Try.ntmps3
    go_upto_region 4 with (first | (go_at_call 8; refine HNW.out.mono ?_; rintro e' w0 ⟨g, T, rfl, hb, ht, hd⟩; have HB0 := Lib.hid hb; have HT0 := Lib.hid ht; have HD0 := Lib.hid hd; clear hb ht hd) | (go_at_call 9; refine (HAN.out w0).mono ?_; rintro e' w1 ⟨rfl, hb⟩; have HB1 := Lib.hid (HB0.out.trans (hb.mono HB0.out.size)); have HD1 := Lib.hid (HD0.out.grow hb (fun _ h => h) (HD0.out.ter.on hb.size)); clear hb))
    have hnr := new_ref (W := w1) (n := nn) HN5.out
    have hb2 := Below.alloc (Below.refl w1.heap.size w1) (Nat.le_refl _) (Obj.cells #[.int .i64 (nn : Nat), .slice none 0 0, .int .i64 0, .int .i64 0, .bool false] 31 (0, 0))
    have hd2 := HD1.out.grow hb2 (fun _ h => h) (HD1.out.ter.on hb2.size)
    have hap : Apart T (fun k => k = w1.heap.size) := fun k ht e => by subst e; exact Nat.lt_irrefl _ (HD1.out.ter _ ht)
    obtain ⟨u, hu⟩ : ∃ u, w1.alloc (Obj.cells #[.int .i64 (nn : Nat), .slice none 0 0, .int .i64 0, .int .i64 0, .bool false] 31 (0, 0)) = u := ⟨_, rfl⟩
    obtain ⟨r, hr⟩ : ∃ r, w1.heap.size = r := ⟨_, rfl⟩
    rw [hu] at hnr hb2 hd2
    have HG : Hid (Grown W u g r nn 0) := Lib.hid ⟨HB1.out.trans (hb2.mono HB1.out.size), T, fun k => k = w1.heap.size, ⟨nn, [], 0, 0, false⟩, HT0.out, fun k e => by have := HB1.out.size; omega, ⟨hd2, hr ▸ hnr, hap⟩, Nat.le_refl _, rfl⟩
    clear hnr hb2 hd2 hap
    go_wp2_with fail
    go_loopg [5, 8] 100 (fun m d i wr => ∃ (k g : Nat), d = .pointer (some ⟨g, 0, none⟩) ∧ i = .int .i64 k ∧ k ≤ 100 ∧ k ≤ l.length ∧ m = 100 - k ∧ Hid (Grown W wr g r nn k))
    case atStart => exact ⟨0, g, rfl, rfl, Nat.zero_le _, Nat.zero_le _, rfl, HG⟩
    case round =>
      obtain ⟨k, g, rfl, rfl, hk, hkl, rfl, HR⟩ := hrel
      have HKK := Lib.hid hk
      have HEND := Lib.hid HR.out.1
      by_cases h1 : k < l.length
      · have h1' : (k : Int) < (l.length : Int) := by omega
        have h0' : (0 : Int) ≤ (k : Int) := by omega
        by_cases h2 : k < 100
        · have h2' : (k : Int) < 100 := by omega
          obtain ⟨b, o, rfl, hlt, hok, c0, c1, c2, c3, c4⟩ := act_at (HA.out.on HR.out.1) h1
          have HLT := Lib.hid h2
          have HL1 := Lib.hid h1
          have HCP := Lib.hid (HR.out.copy (by omega))
          generalize l[k] = a at *
          obtain ⟨kd, ps, fl, od, mk⟩ := a
          dsimp only at c0 c1 c2 c3 c4
          have HOK := Lib.hid hok
          have HBLK := Lib.hid hlt
          clear hok hlt
          by_cases h6 : kd = 6
          · subst h6
            go_upto_region 10 with (go_at_call 10; refine HCP.out.mono ?_; rintro e' wr ⟨g, rfl, hg, hbc⟩; have HR := Lib.hid hg; have hcc := fun j => hbc.cell (p := ⟨b, j, none⟩) HBLK.out; have c0 := (hcc _).trans c0; have c1 := (hcc _).trans c1; have c2 := (hcc _).trans c2; have c3 := (hcc _).trans c3; have c4 := (hcc _).trans c4; clear hg hbc hcc)
            obtain ⟨hbw, T1, R1, st, hT, hR, hbt, hll, hsz⟩ := HR.out
            have HAC := Lib.hid (act_any hbt (by omega) (by omega) ⟨6, ps, fl, od, mk⟩ HOK.out)
            have hln := actS_len st ⟨6, ps, fl, od, mk⟩
            have HST : Hid (∀ w2, BothTo wr w2 T1 R1 (actS st ⟨6, ps, fl, od, mk⟩) (actS st ⟨6, ps, fl, od, mk⟩) g r → Grown W w2 g r nn (k + 1)) := Lib.hid fun w2 h => Grown.step hbw hT hR h (by omega) ((actS_sz _ _).trans hsz)
            have HAL : Hid (∀ w2, BothTo wr w2 T1 R1 (actS st ⟨6, ps, fl, od, mk⟩) (actS st ⟨6, ps, fl, od, mk⟩) g r → Calls Try.prog 12 #[.pointer (some ⟨g, 0, none⟩), .pointer (some ⟨r, 0, none⟩)] w2 fun e w' => e = .returned (.bool true) ∧ Below w2.heap.size w2 w') := Lib.hid fun w2 h => by
              obtain ⟨-, T2, R2, -, -, hh⟩ := h
              exact alike_any hh (by omega)
            clear hbw hT hR hbt hll hsz hln
            go_wp2_with (first | (go_at_call 11; refine HAC.out.mono ?_; rintro e' w2 ⟨bb, rfl, hbb, hw2⟩; obtain rfl := hbb rfl; have HG2 := Lib.hid (HST.out w2 hw2); have HA2 := Lib.hid (HAL.out w2 hw2); clear hbb hw2) | (go_at_call 12; refine HA2.out.mono ?_; rintro e' w3 ⟨rfl, hb3⟩; have HB3 := Lib.hid hb3; clear hb3))
            go_roundg (100 - (k + 1))
            case measure => have := HLT.out; omega
            case rel => exact ⟨k + 1, g, rfl, by go_num, by have := HLT.out; omega, by have := HL1.out; omega, rfl, Lib.hid (HG2.out.below HB3.out)⟩
          · obtain ⟨hbw, T1, R1, st, hT, hR, hbt, hll, hsz⟩ := HR.out
            have HAC := Lib.hid (act_any hbt (by omega) (by omega) ⟨kd, ps, fl, od, mk⟩ HOK.out)
            have hln := actS_len st ⟨kd, ps, fl, od, mk⟩
            have HST : Hid (∀ w2, BothTo wr w2 T1 R1 (actS st ⟨kd, ps, fl, od, mk⟩) (actS st ⟨kd, ps, fl, od, mk⟩) g r → Grown W w2 g r nn (k + 1)) := Lib.hid fun w2 h => Grown.step hbw hT hR h (by omega) ((actS_sz _ _).trans hsz)
            have HAL : Hid (∀ w2, BothTo wr w2 T1 R1 (actS st ⟨kd, ps, fl, od, mk⟩) (actS st ⟨kd, ps, fl, od, mk⟩) g r → Calls Try.prog 12 #[.pointer (some ⟨g, 0, none⟩), .pointer (some ⟨r, 0, none⟩)] w2 fun e w' => e = .returned (.bool true) ∧ Below w2.heap.size w2 w') := Lib.hid fun w2 h => by
              obtain ⟨-, T2, R2, -, -, hh⟩ := h
              exact alike_any hh (by omega)
            clear hbw hT hR hbt hll hsz hln
            go_wp2_with (first | (go_at_call 11; refine HAC.out.mono ?_; rintro e' w2 ⟨bb, rfl, hbb, hw2⟩; obtain rfl := hbb rfl; have HG2 := Lib.hid (HST.out w2 hw2); have HA2 := Lib.hid (HAL.out w2 hw2); clear hbb hw2) | (go_at_call 12; refine HA2.out.mono ?_; rintro e' w3 ⟨rfl, hb3⟩; have HB3 := Lib.hid hb3; clear hb3))
            go_roundg (100 - (k + 1))
            case measure => have := HLT.out; omega
            case rel => exact ⟨k + 1, g, rfl, by go_num, by have := HLT.out; omega, by have := HL1.out; omega, rfl, Lib.hid (HG2.out.below HB3.out)⟩
        · have h2' : ¬ (k : Int) < 100 := by omega
          go_wp2_with fail
          go_ret
          exact ⟨rfl, HEND.out⟩
      · have h1' : ¬ (k : Int) < (l.length : Int) := by omega
        go_wp2_with fail
        go_ret
        exact ⟨rfl, HEND.out⟩
  · have HNW := Lib.hid (New_bad W n hok)
    clear HA
    generalize l.length = q at *
    go_enter Try.func3, Try.ntmps3
    by_cases h1 : 1 ≤ n
    · have h2 : ¬ n ≤ 65536 := fun e => hok ⟨h1, e⟩
      clear hok
      go_wp2_with (first | (go_at_call 8; refine HNW.out.mono ?_; rintro e' wz ⟨rfl, hwz⟩; have hwz := hwz.symm; subst hwz) | (go_at_call 9; refine (HAN.out W).mono ?_; rintro e' w1 ⟨rfl, hb⟩; have HB1 := Lib.hid hb; have HB2 := Lib.hid (fun o => hb.trans ((Below.alloc (Below.refl w1.heap.size w1) (Nat.le_refl _) o).mono hb.size)); clear hb))
      go_loopg [5, 8] 1 (fun m d i wr => d = .pointer none ∧ i = .int .i64 0 ∧ m = 1 ∧ Hid (Below W.heap.size W wr))
      case atStart => exact ⟨rfl, rfl, rfl, Lib.hid (HB2.out _)⟩
      case round =>
        obtain ⟨rfl, rfl, rfl, HE⟩ := hrel
        by_cases hl0 : 0 < q
        · have hl1 : (0 : Int) < (q : Int) := by omega
          go_wp2_with fail
          go_ret
          exact ⟨rfl, HE.out⟩
        · have hl1 : ¬ (0 : Int) < (q : Int) := by omega
          go_wp2_with fail
          go_ret
          exact ⟨rfl, HE.out⟩
    · clear hok
      go_wp2_with (first | (go_at_call 8; refine HNW.out.mono ?_; rintro e' wz ⟨rfl, hwz⟩; have hwz := hwz.symm; subst hwz) | (go_at_call 9; refine (HAN.out W).mono ?_; rintro e' w1 ⟨rfl, hb⟩; have HB1 := Lib.hid hb; have HB2 := Lib.hid (fun o => hb.trans ((Below.alloc (Below.refl w1.heap.size w1) (Nat.le_refl _) o).mono hb.size)); clear hb))
      go_loopg [5, 8] 1 (fun m d i wr => d = .pointer none ∧ i = .int .i64 0 ∧ m = 1 ∧ Hid (Below W.heap.size W wr))
      case atStart => exact ⟨rfl, rfl, rfl, Lib.hid (HB2.out _)⟩
      case round =>
        obtain ⟨rfl, rfl, rfl, HE⟩ := hrel
        by_cases hl0 : 0 < q
        · have hl1 : (0 : Int) < (q : Int) := by omega
          go_wp2_with fail
          go_ret
          exact ⟨rfl, HE.out⟩
        · have hl1 : ¬ (0 : Int) < (q : Int) := by omega
          go_wp2_with fail
          go_ret
          exact ⟨rfl, HE.out⟩
end Go.Proofs.Ytngfffbnofejmaa
