/- Law SectorWhole: the walk. -/
import Derived.Test.YtngfffbnofejmaaSGrw
namespace Go.Proofs.Ytngfffbnofejmaa
open Go.RowKit Go.Lib Go.ChangeMaps Go.MapKept

theorem keepM_mem (m : Nat) (l : List Wr) (k : Nat) {w : Wr} (h : w ∈ keepM m k l) : w ∈ l := by
  rw [keepM_eq] at h
  exact keepF_mem _ _ _ h
/-- Behind a crash a sector is as it was sure, or as some write since made it. -/
theorem crash_or (st : DS) (m i : Nat) : nowL (crashS st m).log i = nowL st.sure i ∨ (i, nowL (crashS st m).log i) ∈ st.un := by
  have h : nowL (crashS st m).log i = (lastW (keepM m 0 st.un) i).getD (nowL st.sure i) := nowL_append _ _ _
  cases e : lastW (keepM m 0 st.un) i with
  | none => rw [e] at h; exact .inl h
  | some s =>
    rw [e] at h
    right
    have h2 : nowL (crashS st m).log i = s := h
    rw [h2]
    exact keepM_mem _ _ _ (lastW_mem _ e)
/-- The part of a list of writes that is sure, as a list of its own. -/
theorem LogAt.part {W : World} {T : Nat → Prop} {A : Option Addr} {c n : Nat} {l : List WV} (h : LogAt W T (.slice A l.length c) l) (hn : n ≤ l.length) : LogAt W T (.slice A n c) (l.take n) := by
  have hl : (l.take n).length = n := by rw [List.length_take]; omega
  refine { row := ⟨by rw [flat_len kindW.len], ?_⟩, ter := fun k e => h.ter k (by cases A <;> exact e), sv := fun x hx => h.sv x (List.mem_of_mem_take hx) }
  rcases h.row.2 with ⟨e, h0⟩ | ⟨g, cap, cur, e, hg, hh, h1, h2, h3, h4⟩
  · left
    injection e with e1 e2 e3
    subst e1; subst e3
    exact ⟨by rw [show n = 0 by omega], by omega⟩
  · right
    injection e with e1 e2 e3
    subst e1; subst e3
    refine ⟨g, c, cur, by rw [hl], hg, hh, by omega, h2, h3, ?_⟩
    rw [hl]
    have h5 : (l.flatMap encW).take (n * 2) = (l.take n).flatMap encW := by
      have h6 : (l.flatMap encW) = (l.take n).flatMap encW ++ (l.drop n).flatMap encW := by rw [← List.flatMap_append, List.take_append_drop]
      rw [h6, List.take_append_of_le_length (by rw [flat_len kindW.len, hl]; exact Nat.le_refl _), List.take_of_length_le (by rw [flat_len kindW.len, hl]; exact Nat.le_refl _)]
    rw [← h5, ← h4, List.take_take, Nat.min_eq_left (by have := Nat.mul_le_mul_right 2 hn; omega)]
theorem run_sliceW (A : Option Addr) (n c m : Nat) (hm : m ≤ n) (hn : n ≤ c) (w : World) :
    (Instr.slice 29 (.slice A n c) none (some (.int .i64 m)) none).run Try.prog w = .ok (.slice A m c) w := by
  have h1 := Try.underlying29
  have h3 : Try.prog.elem 29 = 51 := by kernel_rfl
  rw [run_slice_h (P := Try.prog) (t := 29) (a := A) (len := n) (cap := c) (ht := by rw [h3]; exact h1) (kh := .i64) (h := m) (h0 := by omega) (h2 := by omega), h3, Try.sizeOf51]
  cases A <;> simp [Result.andThen, sliced, Addr.add]
set_option maxRecDepth 10000 in
set_option maxHeartbeats 4000000 in
theorem whole_walk {W : World} {A : Option Addr} {l : List AV} {cap : Nat} (h : ActsAt W A l) (hl : l.length ≤ 9223372036854775807) (mask : Nat) (hm : mask < 18446744073709551616) :
    Calls Try.prog 5 #[.slice A l.length cap, .int .u64 (mask : Nat)] W fun e w' => e = .returned (.bool true) ∧ Below W.heap.size W w' := by
  have HGR := Lib.hid (grown_any (cap := cap) h hl)
  have HAN := Lib.hid answers_any
  have HM := Lib.hid hm
  clear h hl hm
  go_enter Try.func5, Try.ntmps5
  go_upto_region 4 with (first | (go_at_call 13; refine HGR.out.mono ?_; rintro e' w0 ⟨g, r, rfl, hg⟩; have HG0 := Lib.hid hg; clear hg) | (go_at_call 9; refine (HAN.out w0).mono ?_; rintro e' w1 ⟨rfl, hb⟩; have HB1 := Lib.hid hb; clear hb))
  obtain ⟨hb0, T, R, st, hT, hR, hbt0, hll, hsz⟩ := HG0.out
  have hbt := hbt0.grow HB1.out
  have HCR := Lib.hid (Crash_any hbt.d (by omega) mask HM.out)
  have HBT := Lib.hid hbt
  have HB01 := Lib.hid (hb0.trans (HB1.out.mono hb0.size))
  have HT := Lib.hid hT
  have HR := Lib.hid hR
  have HLL := Lib.hid hll
  have HSZ := Lib.hid hsz
  clear hb0 hT hR hbt0 hll hsz hbt
  go_upto_region 6 with (first | (go_at_call 17; refine HCR.out.mono ?_; rintro e' w2 ⟨rfl, hd⟩; have HD2 := Lib.hid (HBT.out.stepD hd); obtain ⟨T2, R2, et2, er2, hb2⟩ := HD2.out.both; have HBT2 := Lib.hid hb2; have HDN : Hid (Calls Try.prog 19 #[.pointer (some ⟨g, 0, none⟩)] w2 fun e w' => e = .returned (.bool false) ∧ w' = w2) := Lib.hid (Down_any hb2.d); have HE2 := Lib.hid (And.intro et2 er2); clear hd hb2 et2 er2) | (go_at_call 19; refine HDN.out.mono ?_; rintro e' wz ⟨rfl, hwz⟩; have hwz := hwz.symm; subst hwz))
  have HB02 : Hid (Below W.heap.size W w2) := Lib.hid (HD2.out.1.below HB01.out HB01.out.size (fun k e => e.elim (fun e => HT.out k e.1) (fun e => HR.out k e.1)))
  obtain ⟨vr, Ur, hr⟩ := HBT2.out.w
  obtain ⟨Ar, cr, rfl⟩ := hr.row.shape
  have HRA := Lib.hid hr
  have HRN := Lib.hid (show st.n ≤ Ur.length ∧ Ur.length ≤ 100 ∧ Ur.length ≤ cr from by
    have h1 := congrArg List.length hr.log
    rw [List.length_map] at h1
    have h2 := hr.ok.1
    have h3 := HLL.out
    refine ⟨by omega, by omega, ?_⟩
    rcases hr.row.row.2 with ⟨e, h0⟩ | ⟨g', cap', cur, e, -, -, h4, -⟩
    · omega
    · injection e with _ _ e3
      omega)
  clear hr
  go_wp2_with fail
  go_loopg [7] 6 (fun m i wr => ∃ k : Nat, i = .int .i64 k ∧ k ≤ 6 ∧ m = 6 - k ∧ Hid (Below w2.heap.size w2 wr))
  case atStart => exact ⟨0, rfl, Nat.zero_le _, rfl, Lib.hid (Below.refl _ _)⟩
  case round =>
    obtain ⟨k, rfl, hk, rfl, HB⟩ := hrel
    have HEND := Lib.hid (HB02.out.trans (HB.out.mono HB02.out.size))
    by_cases h6 : k < 6
    · have h6' : (k : Int) < 6 := by omega
      have HLT := Lib.hid h6
      have hbt3 := HBT2.out.grow HB.out
      have HRE := Lib.hid (read_in (st := crashS st mask) (i := k) rfl (show k < st.sz by rw [HSZ.out]; exact h6))
      have hrd := Read_any hbt3.d (k : Int) (by unfold In64; omega)
      obtain ⟨s, hs⟩ : ∃ s, Hid (nowL (crashS st mask).log k = s) := ⟨_, Lib.hid rfl⟩
      have HSL : Hid (s.length = 512) := Lib.hid (by rw [← hs.out]; exact nowL_len (fun w hw => (hbt3.d.ok.2.1 w hw).2) k)
      have HRD := Lib.hid hrd
      have HBT3 := Lib.hid hbt3
      clear hrd hbt3 h6
      go_upto_region 10 with (go_at_call 16; refine HRD.out.mono ?_; rintro e' w4 ⟨v4, rfl, hv4⟩; have HV4 := Lib.hid hv4; clear hv4)
      rw [HRE.out.1]
      rw [HRE.out.2, hs.out] at HV4
      have hv4 := HV4.out
      obtain ⟨A4, c4, ev4, hb4, hk4⟩ := row_arg hv4
      rw [HSL.out] at ev4
      subst ev4
      clear hv4 hb4 hk4
      go_upto_region 12 with (fail)
      have HB4 : Hid (Below w2.heap.size w2 w4.drew) := Lib.hid ((HB.out.trans (HV4.out.1.mono HB.out.size)).drew)
      have HV4d : Hid (BRow wr (.slice A4 512 c4) s w4.drew) := Lib.hid (HV4.out.on ((Below.refl _ w4).drew))
      obtain ⟨u, hu⟩ : ∃ u, w4.drew = u := ⟨_, rfl⟩
      rw [hu] at HB4 HV4d
      have hkk : u.cell? ⟨r, 1, none⟩ = some (.slice Ar Ur.length cr) ∧ u.cell? ⟨r, 2, none⟩ = some (.int .i64 (st.n : Nat)) := ⟨(HB4.out.cell (p := ⟨r, 1, none⟩) (blk_lt HRA.out.blk)).trans HRA.out.c1, (HB4.out.cell (p := ⟨r, 2, none⟩) (blk_lt HRA.out.blk)).trans HRA.out.c2⟩
      have HKK := Lib.hid hkk
      have hslc := fun w => run_sliceW Ar Ur.length cr st.n HRN.out.1 HRN.out.2.2 w
      have hb5 := Below.alloc (Below.refl u.heap.size u) (Nat.le_refl _) (Obj.cells #[.int .i64 6, .slice Ar st.n cr, .int .i64 0, .int .i64 0, .bool false] 31 (0, 0))
      have hn5 := heap_alloc_new u (Obj.cells #[.int .i64 6, .slice Ar st.n cr, .int .i64 0, .int .i64 0, .bool false] 31 (0, 0))
      obtain ⟨u5, hu5⟩ : ∃ v, u.alloc (Obj.cells #[.int .i64 6, .slice Ar st.n cr, .int .i64 0, .int .i64 0, .bool false] 31 (0, 0)) = v := ⟨_, rfl⟩
      obtain ⟨z, hz⟩ : ∃ v, u.heap.size = v := ⟨_, rfl⟩
      rw [hu5] at hb5 hn5
      rw [hz] at hn5
      have HB5 : Hid (Below w2.heap.size w2 u5) := Lib.hid (HB4.out.trans (hb5.mono HB4.out.size))
      have HSR : Hid (Rk u5 (fun j => R2 j ∨ j = z) ⟨6, st.sure, 0, 0, false⟩ z) := by
        have hR5 : Ter u5 R2 := HRA.out.ter.on HB5.out.size
        have hrow := HRA.out.row.on (W' := u5) (T' := fun j => R2 j ∨ j = z) (fun j e => .inl e) (fun j hj => HB5.out.block j (HRA.out.ter j hj))
        refine Lib.hid ⟨.slice Ar st.n cr, Ur.take st.n, { ok := ⟨Nat.zero_le _, fun w hw => ?_, by show ((0 : Nat) : Int) ≤ _; omega, by show 6 ≤ 65536; omega⟩, ter := fun j e => e.elim (hR5 j) (fun e => by rw [e]; exact blk_lt hn5), here := .inr rfl, blk := hn5, row := hrow.part HRN.out.1, log := by rw [List.map_take, HRA.out.log]; rfl }⟩
        have := HRA.out.ok.2.1 w (List.mem_of_mem_take hw)
        rw [HSZ.out] at this
        exact this
      have HBU5 := Lib.hid hb5
      clear hkk hb5 hn5
      refine wp_region_held_drew (S := fun W => W.cell? ⟨r, 1, none⟩ = some (.slice Ar Ur.length cr) ∧ W.cell? ⟨r, 2, none⟩ = some (.int .i64 (st.n : Nat))) (by kernel_rfl) ?_ (fun hHeld => ?_)
      · (try dsimp only)
        rw [hu]
        exact HKK.out
      rw [hu] at hHeld ⊢
      clear hu
      refine takeSome (i := 0) (v := ?_) (by decide +kernel) rfl (by rfl) (by decide +kernel) (by decide +kernel) (fun _ _ _ h => h) (by assumption) ?_ ?_
      rotate_left
      focus (intro w0 hSw; (try dsimp only at hSw); go_simp; (try (with_reducible rfl)); done)
      (try simp only [Act.put, List.getElem_toArray, List.getElem_cons_zero, List.setIfInBounds_toArray, List.set_cons_zero, List.set_cons_succ])
      refine takeSome (i := 1) (v := ?_) (by decide +kernel) rfl (by rfl) (by decide +kernel) (by decide +kernel) (fun _ _ _ h => h) (by assumption) ?_ ?_
      rotate_left
      focus (intro w0 hSw; (try dsimp only at hSw); go_simp; (try (with_reducible rfl)); done)
      (try simp only [Act.put, List.getElem_toArray, List.getElem_cons_zero, List.getElem_cons_succ, List.setIfInBounds_toArray, List.set_cons_zero, List.set_cons_succ])
      refine takeSome (i := 2) (v := ?_) (by decide +kernel) rfl (by rfl) (by decide +kernel) (by decide +kernel) (fun _ _ _ h => h) (by assumption) ?_ ?_
      rotate_left
      focus (intro w0 hSw; (try dsimp only at hSw); go_simp; (try (with_reducible rfl)); done)
      (try simp only [Act.put, List.getElem_toArray, List.getElem_cons_zero, List.getElem_cons_succ, List.setIfInBounds_toArray, List.set_cons_zero, List.set_cons_succ])
      refine takeSome (i := 3) (v := ?_) (by decide +kernel) rfl (by rfl) (by decide +kernel) (by decide +kernel) (fun _ _ _ h => h) (by assumption) ?_ ?_
      rotate_left
      focus (intro w0 hSw; (try dsimp only at hSw); go_simp; (try (with_reducible rfl)); done)
      (try simp only [Act.put, List.getElem_toArray, List.getElem_cons_zero, List.getElem_cons_succ, List.setIfInBounds_toArray, List.set_cons_zero, List.set_cons_succ])
      refine takeSome (i := 4) (v := ?_) (by decide +kernel) rfl (by rfl) (by decide +kernel) (by decide +kernel) (fun _ _ _ h => h) (by assumption) ?_ ?_
      rotate_left
      focus (intro w0 hSw; (try dsimp only at hSw); go_simp; (try (with_reducible rfl)); done)
      (try simp only [Act.put, List.getElem_toArray, List.getElem_cons_zero, List.getElem_cons_succ, List.setIfInBounds_toArray, List.set_cons_zero, List.set_cons_succ])
      refine takeSome (i := 5) (v := ?_) (by decide +kernel) rfl (by rfl) (by decide +kernel) (by decide +kernel) (fun _ _ _ h => h) (by assumption) ?_ ?_
      rotate_left
      focus (intro w0 hSw; (try dsimp only at hSw); go_simp; (try (with_reducible rfl)); done)
      (try simp only [Act.put, List.getElem_toArray, List.getElem_cons_zero, List.getElem_cons_succ, List.setIfInBounds_toArray, List.set_cons_zero, List.set_cons_succ])
      refine takeSome (i := 6) (v := ?_) (by decide +kernel) rfl (by rfl) (by decide +kernel) (by decide +kernel) (fun _ _ _ h => h) (by assumption) ?_ ?_
      rotate_left
      focus (intro w0 hSw; (try dsimp only at hSw); go_simp; (try (with_reducible rfl)); done)
      (try simp only [Act.put, List.getElem_toArray, List.getElem_cons_zero, List.getElem_cons_succ, List.setIfInBounds_toArray, List.set_cons_zero, List.set_cons_succ])
      refine takeSome (i := 7) (v := ?_) (by decide +kernel) rfl (by rfl) (by decide +kernel) (by decide +kernel) (fun _ _ _ h => h) (by assumption) ?_ ?_
      rotate_left
      focus (intro w0 hSw; (try dsimp only at hSw); go_simp; (try (with_reducible rfl)); done)
      (try simp only [Act.put, List.getElem_toArray, List.getElem_cons_zero, List.getElem_cons_succ, List.setIfInBounds_toArray, List.set_cons_zero, List.set_cons_succ])
      refine takeSome (i := 8) (v := ?_) (by decide +kernel) rfl (by rfl) (by decide +kernel) (by decide +kernel) (fun _ _ _ h => h) (by assumption) ?_ ?_
      rotate_left
      focus (intro w0 hSw; (try dsimp only at hSw); go_simp; (try (with_reducible rfl)); done)
      (try simp only [Act.put, List.getElem_toArray, List.getElem_cons_zero, List.getElem_cons_succ, List.setIfInBounds_toArray, List.set_cons_zero, List.set_cons_succ])
      refine takeSome (i := 9) (v := ?_) (by decide +kernel) rfl (by rfl) (by decide +kernel) (by decide +kernel) (fun _ _ _ h => h) (by assumption) ?_ ?_
      rotate_left
      focus (intro w0 hSw; (try dsimp only at hSw); go_simp; (try (with_reducible rfl)); done)
      (try simp only [Act.put, List.getElem_toArray, List.getElem_cons_zero, List.getElem_cons_succ, List.setIfInBounds_toArray, List.set_cons_zero, List.set_cons_succ])
      refine wpAnyH_ready (rs := [10]) (by decide +kernel) (by simp) ?_
      refine AllReadyH.cons rfl (fun K hK => ?_) AllReadyH.nil
      (try simp only [List.getElem_toArray, List.getElem_cons_zero, List.getElem_cons_succ])
      go_simp
      refine hK.out _ _ ?_ (fun hHeld => ?_)
      focus ((try dsimp only); exact ⟨(HB5.out.cell (p := ⟨r, 1, none⟩) (blk_lt HRA.out.blk)).trans HRA.out.c1, (HB5.out.cell (p := ⟨r, 2, none⟩) (blk_lt HRA.out.blk)).trans HRA.out.c2⟩; done)
      clear hK K
      (try simp only [Act.put, List.getElem_toArray, List.getElem_cons_zero, List.getElem_cons_succ, List.setIfInBounds_toArray, List.set_cons_zero, List.set_cons_succ])
      refine takeSome (i := 11) (v := ?_) (by decide +kernel) rfl (by rfl) (by decide +kernel) (by decide +kernel) (fun _ _ _ h => h) (by assumption) ?_ ?_
      rotate_left
      focus (intro w0 hSw; (try dsimp only at hSw); go_simp; (try (with_reducible rfl)); done)
      (try simp only [Act.put, List.getElem_toArray, List.getElem_cons_zero, List.getElem_cons_succ, List.setIfInBounds_toArray, List.set_cons_zero, List.set_cons_succ])
      refine wpAnyH_done (by decide +kernel) ?_ _
      clear hHeld hslc hu5 hz
      go_upto_region 13 with (fail)
      have HB6 : Hid (Below w2.heap.size w2 u5.drew) := Lib.hid HB5.out.drew
      have HSR6 : Hid (Rk u5.drew (fun j => R2 j ∨ j = z) ⟨6, st.sure, 0, 0, false⟩ z) := Lib.hid (HSR.out.grow ((Below.refl _ u5).drew) (fun _ h => h) (HSR.out.ter.on (Nat.le_refl _)))
      have hb45 : Below u.heap.size u u5.drew := HBU5.out.drew
      have HV6 : Hid (BRow wr (.slice A4 512 c4) s u5.drew) := Lib.hid (HV4d.out.on hb45)
      obtain ⟨u6, hu6⟩ : ∃ v, u5.drew = v := ⟨_, rfl⟩
      rw [hu6] at HB6 HSR6 HV6
      have HNW := Lib.hid (Now_any HSR6.out (by
        show st.sure.length ≤ 100000
        unfold DS.sure
        rw [List.length_take]
        have := HLL.out; omega) k)
      obtain ⟨S1, hS1⟩ : ∃ v : ByteArray, Hid (⟨s.toArray⟩ = v) := ⟨_, Lib.hid rfl⟩
      obtain ⟨S2, hS2⟩ : ∃ v : ByteArray, Hid (⟨(nowL st.sure k).toArray⟩ = v) := ⟨_, Lib.hid rfl⟩
      have hc4 := conv_row HV6.out
      rw [hS1.out] at hc4
      have HC4 := Lib.hid hc4
      obtain ⟨b0, hq0⟩ : ∃ v, (S1.toList == S2.toList) = v := ⟨_, rfl⟩
      have HQ0 : Hid (b0 = false → s ≠ nowL st.sure k) := Lib.hid fun e e2 => by
        have : S1 = S2 := by rw [← hS1.out, ← hS2.out, e2]
        rw [e, this, beq_self_eq_true] at hq0
        cases hq0
      clear hb45 hc4
      refine wp_region_held_drew (S := fun W => (convert 43 9 (.slice A4 512 c4)).run Try.prog W = .ok (.string S1) W) (by kernel_rfl) ?_ (fun hHeld => ?_)
      · (try dsimp only)
        rw [hu6]
        exact HC4.out
      rw [hu6] at hHeld ⊢
      clear hu6
      refine takeSome (i := 0) (v := ?_) (by decide +kernel) rfl (by rfl) (by decide +kernel) (by decide +kernel) (fun _ _ _ h => h) (by assumption) ?_ ?_
      rotate_left
      focus (intro w0 hSw; (try dsimp only at hSw); go_simp; (try (with_reducible rfl)); done)
      (try simp only [Act.put, List.getElem_toArray, List.getElem_cons_zero, List.setIfInBounds_toArray, List.set_cons_zero, List.set_cons_succ])
      refine takeSome (i := 1) (v := ?_) (by decide +kernel) rfl (by rfl) (by decide +kernel) (by decide +kernel) (fun _ _ _ h => h) (by assumption) ?_ ?_
      rotate_left
      focus (intro w0 hSw; (try dsimp only at hSw); go_simp; (try (with_reducible rfl)); done)
      (try simp only [Act.put, List.getElem_toArray, List.getElem_cons_zero, List.getElem_cons_succ, List.setIfInBounds_toArray, List.set_cons_zero, List.set_cons_succ])
      refine takeSome (i := 2) (v := ?_) (by decide +kernel) rfl (by rfl) (by decide +kernel) (by decide +kernel) (fun _ _ _ h => h) (by assumption) ?_ ?_
      rotate_left
      focus (intro w0 hSw; (try dsimp only at hSw); go_simp; (try (with_reducible rfl)); done)
      (try simp only [Act.put, List.getElem_toArray, List.getElem_cons_zero, List.getElem_cons_succ, List.setIfInBounds_toArray, List.set_cons_zero, List.set_cons_succ])
      refine takeSome (i := 3) (v := ?_) (by decide +kernel) rfl (by rfl) (by decide +kernel) (by decide +kernel) (fun _ _ _ h => h) (by assumption) ?_ ?_
      rotate_left
      focus (intro w0 hSw; (try dsimp only at hSw); go_simp; (try (with_reducible rfl)); done)
      (try simp only [Act.put, List.getElem_toArray, List.getElem_cons_zero, List.getElem_cons_succ, List.setIfInBounds_toArray, List.set_cons_zero, List.set_cons_succ])
      refine wpAnyH_ready (rs := [4]) (by decide +kernel) (by simp) ?_
      refine AllReadyH.cons rfl (fun K hK => ?_) AllReadyH.nil
      (try simp only [List.getElem_toArray, List.getElem_cons_zero, List.getElem_cons_succ])
      go_simp
      (go_at_call 20; refine HNW.out.mono ?_; rintro e' w7 ⟨v7, rfl, hv7⟩; have HV7 := Lib.hid hv7; have hc7 := conv_row (HV6.out.on hv7.1); rw [hS1.out] at hc7; have hd7 := conv_row hv7; rw [show (⟨(nowL (DS.log ⟨6, st.sure, 0, 0, false⟩) k).toArray⟩ : ByteArray) = S2 from hS2.out] at hd7; have HC7 := Lib.hid hc7)
      refine hK.out _ _ ?_ (fun hHeld => ?_)
      focus ((try dsimp only); exact HC7.out; done)
      clear hK K
      (try simp only [Act.put, List.getElem_toArray, List.getElem_cons_zero, List.getElem_cons_succ, List.setIfInBounds_toArray, List.set_cons_zero, List.set_cons_succ])
      refine wpAnyH_ready (rs := [5]) (by decide +kernel) (by simp) ?_
      refine AllReadyH.cons rfl (fun K hK => ?_) AllReadyH.nil
      (try simp only [List.getElem_toArray, List.getElem_cons_zero, List.getElem_cons_succ])
      go_simp
      refine hK.out _ _ ?_ (fun hHeld => ?_)
      focus ((try dsimp only); exact HC7.out; done)
      clear hK K
      (try simp only [Act.put, List.getElem_toArray, List.getElem_cons_zero, List.getElem_cons_succ, List.setIfInBounds_toArray, List.set_cons_zero, List.set_cons_succ])
      refine takeSome (i := 6) (v := ?_) (by decide +kernel) rfl (by rfl) (by decide +kernel) (by decide +kernel) (fun _ _ _ h => h) (by assumption) ?_ ?_
      rotate_left
      focus (intro w0 hSw; (try dsimp only at hSw); go_simp; (try (with_reducible rfl)); done)
      (try simp only [Act.put, List.getElem_toArray, List.getElem_cons_zero, List.getElem_cons_succ, List.setIfInBounds_toArray, List.set_cons_zero, List.set_cons_succ])
      refine takeSome (i := 7) (v := ?_) (by decide +kernel) rfl (by rfl) (by decide +kernel) (by decide +kernel) (fun _ _ _ h => h) (by assumption) ?_ ?_
      rotate_left
      focus (intro w0 hSw; (try dsimp only at hSw); go_simp; (try (with_reducible rfl)); done)
      (try simp only [Act.put, List.getElem_toArray, List.getElem_cons_zero, List.getElem_cons_succ, List.setIfInBounds_toArray, List.set_cons_zero, List.set_cons_succ])
      refine wpAnyH_done (by decide +kernel) ?_ _
      clear hHeld hq0 hd7
      have HB7 := Lib.hid (HB6.out.trans (HV7.out.1.mono HB6.out.size))
      have HV67 : Hid (BRow wr (.slice A4 512 c4) s w7) := Lib.hid (HV6.out.on HV7.out.1)
      obtain ⟨wv, hwv⟩ : ∃ v, v = wr := ⟨_, rfl⟩
      rw [← hwv] at HV67
      clear hwv
      have k27 : w7.cell? ⟨r, 2, none⟩ = some (.int .i64 (st.n : Nat)) := (HB7.out.cell (p := ⟨r, 2, none⟩) (blk_lt HRA.out.blk)).trans HRA.out.c2
      have HUL := Lib.hid (show Ur.length = st.log.length by rw [← HRA.out.log, List.length_map])
      have HCE := Lib.hid (crash_or st mask k)
      rw [hs.out] at HCE
      go_wp2_with fail
      go_loopg [11, 12] (Ur.length - st.n) (fun m ok i wq => ∃ (p : Nat) (ob : Bool), ok = .bool ob ∧ i = .int .i64 p ∧ st.n ≤ p ∧ p ≤ Ur.length ∧ m = Ur.length - p ∧ Hid (Below w7.heap.size w7 wq ∧ (ob = false → s ≠ nowL st.sure k ∧ ∀ j, st.n ≤ j → j < p → ∀ h : j < Ur.length, ¬ (Ur[j].1 = k ∧ Ur[j].2.bs = s))))
      case atStart => exact ⟨st.n, b0, rfl, rfl, Nat.le_refl _, HRN.out.1, rfl, Lib.hid ⟨Below.refl _ _, fun e => ⟨HQ0.out e, fun j h1 h2 => by omega⟩⟩⟩
      case round =>
        obtain ⟨p, ob, rfl, rfl, hpn, hp, rfl, HQ⟩ := hrel
        have HPU := Lib.hid HRN.out.2.1
        have j1 : wr.cell? ⟨r, 1, none⟩ = some (.slice Ar Ur.length cr) := ((HB7.out.trans (HQ.out.1.mono HB7.out.size)).cell (p := ⟨r, 1, none⟩) (blk_lt HRA.out.blk)).trans HRA.out.c1
        by_cases hpl : p < Ur.length
        · have hp1 : (p : Int) < (Ur.length : Int) := by omega
          have hp0 : (0 : Int) ≤ (p : Int) := by omega
          have HPL := Lib.hid hpl
          obtain ⟨bl, c', ev, r0, r1⟩ := HRA.out.row.get hpl
          have ea := (Value.slice.inj ev).1
          have hbl : bl < w2.heap.size := by
            obtain ⟨cur, hh⟩ := HRA.out.row.blk (k := bl) (by rw [ea]; rfl)
            exact blk_lt hh
          subst ea
          have HX := Lib.hid (HRA.out.row.sv _ (List.getElem_mem hpl))
          have HXE := Lib.hid (fun (j : Nat) (h : j < Ur.length) (e : j = p) => show Ur[j] = Ur[p] by subst e; rfl)
          generalize Ur[p] = x at *
          obtain ⟨xi, xA, xc, xb⟩ := x
          have hxl : xb.length = 512 := HX.out.2.1
          have HBQ : Hid (Below w2.heap.size w2 wr.drew) := Lib.hid ((HB7.out.trans (HQ.out.1.mono HB7.out.size)).drew)
          have HWQ : Hid (Below w7.heap.size w7 wr.drew) := Lib.hid HQ.out.1.drew
          have HVQ : Hid (BRow wv (.slice A4 512 c4) s wr.drew) := Lib.hid (HV67.out.on (HQ.out.1.drew))
          obtain ⟨y, hy⟩ : ∃ y, wr.drew = y := ⟨_, rfl⟩
          rw [hy] at HBQ HWQ HVQ
          obtain ⟨S3, hS3⟩ : ∃ v : ByteArray, Hid (⟨xb.toArray⟩ = v) := ⟨_, Lib.hid rfl⟩
          have hc4 := conv_row HVQ.out
          rw [hS1.out] at hc4
          have hX3 : SvAt y R2 ⟨xA, xc, xb⟩ := HX.out.on (fun _ h => h) (fun k h1 _ => HBQ.out.block k (HRA.out.ter k h1))
          have hcx := conv_str (c := xc) hX3.1
          dsimp only at hcx
          rw [hxl, hS3.out] at hcx
          have hyk := fun (i j : Nat) (hi : i < w2.heap.size) => HBQ.out.cell (p := ⟨i, j, none⟩) hi
          have hS : y.cell? ⟨r, 1, none⟩ = some (.slice (some ⟨bl, 0, none⟩) Ur.length cr) ∧ y.cell? ⟨bl, p * 2, none⟩ = some (.int .i64 (xi : Nat)) ∧ y.cell? ⟨bl, p * 2 + 1, none⟩ = some (.slice xA 512 xc) ∧ (convert 43 9 (.slice A4 512 c4)).run Try.prog y = .ok (.string S1) y ∧ (convert 43 9 (.slice xA 512 xc)).run Try.prog y = .ok (.string S3) y :=
            ⟨(hyk r 1 (blk_lt HRA.out.blk)).trans HRA.out.c1, (hyk bl (p * 2) hbl).trans r0, (hyk bl (p * 2 + 1) hbl).trans (by rw [r1, ← hxl]; rfl), hc4, hcx⟩
          have HSS := Lib.hid hS
          obtain ⟨b1, hq1⟩ : ∃ v, (S1.toList == S3.toList) = v := ⟨_, rfl⟩
          have HQ1 : Hid (b1 = false → ¬ xb = s) := Lib.hid fun e e2 => by
            have : S1 = S3 := by rw [← hS1.out, ← hS3.out, e2]
            rw [e, this, beq_self_eq_true] at hq1
            cases hq1
          have HQQ := Lib.hid HQ.out.2
          clear hS hc4 hcx hX3 hyk r0 r1 ev hbl hxl HQ
          go_upto_region 17 with (fail)
          refine wp_region_held_drew (S := fun W => W.cell? ⟨r, 1, none⟩ = some (.slice (some ⟨bl, 0, none⟩) Ur.length cr) ∧ W.cell? ⟨bl, p * 2, none⟩ = some (.int .i64 (xi : Nat)) ∧ W.cell? ⟨bl, p * 2 + 1, none⟩ = some (.slice xA 512 xc) ∧ (convert 43 9 (.slice A4 512 c4)).run Try.prog W = .ok (.string S1) W ∧ (convert 43 9 (.slice xA 512 xc)).run Try.prog W = .ok (.string S3) W) (by kernel_rfl) ?_ (fun hHeld => ?_)
          · (try dsimp only)
            rw [hy]
            exact HSS.out
          rw [hy] at hHeld ⊢
          clear hy
          cases ob
          · have HN0 := Lib.hid (HQQ.out rfl)
            by_cases hxk : xi = k
            · have hxk' : (xi : Int) = (k : Int) := by omega
              have HXK := Lib.hid hxk
              clear hxk
              refine takeSome (i := 0) (v := ?_) (by decide +kernel) rfl (by rfl) (by decide +kernel) (by decide +kernel) (fun _ _ _ h => h) (by assumption) ?_ ?_
              rotate_left
              focus (intro w0 hSw; (try dsimp only at hSw); go_simp; (try (with_reducible rfl)); done)
              (try simp only [Act.put, List.getElem_toArray, List.getElem_cons_zero, List.setIfInBounds_toArray, List.set_cons_zero, List.set_cons_succ])
              refine takeSome (i := 1) (v := ?_) (by decide +kernel) rfl (by rfl) (by decide +kernel) (by decide +kernel) (fun _ _ _ h => h) (by assumption) ?_ ?_
              rotate_left
              focus (intro w0 hSw; (try dsimp only at hSw); go_simp; (try (with_reducible rfl)); done)
              (try simp only [Act.put, List.getElem_toArray, List.getElem_cons_zero, List.getElem_cons_succ, List.setIfInBounds_toArray, List.set_cons_zero, List.set_cons_succ])
              refine takeSome (i := 2) (v := ?_) (by decide +kernel) rfl (by rfl) (by decide +kernel) (by decide +kernel) (fun _ _ _ h => h) (by assumption) ?_ ?_
              rotate_left
              focus (intro w0 hSw; (try dsimp only at hSw); go_simp; (try (with_reducible rfl)); done)
              (try simp only [Act.put, List.getElem_toArray, List.getElem_cons_zero, List.getElem_cons_succ, List.setIfInBounds_toArray, List.set_cons_zero, List.set_cons_succ])
              refine takeSome (i := 3) (v := ?_) (by decide +kernel) rfl (by rfl) (by decide +kernel) (by decide +kernel) (fun _ _ _ h => h) (by assumption) ?_ ?_
              rotate_left
              focus (intro w0 hSw; (try dsimp only at hSw); go_simp; (try (with_reducible rfl)); done)
              (try simp only [Act.put, List.getElem_toArray, List.getElem_cons_zero, List.getElem_cons_succ, List.setIfInBounds_toArray, List.set_cons_zero, List.set_cons_succ])
              refine takeSome (i := 4) (v := ?_) (by decide +kernel) rfl (by rfl) (by decide +kernel) (by decide +kernel) (fun _ _ _ h => h) (by assumption) ?_ ?_
              rotate_left
              focus (intro w0 hSw; (try dsimp only at hSw); go_simp; (try (with_reducible rfl)); done)
              (try simp only [Act.put, List.getElem_toArray, List.getElem_cons_zero, List.getElem_cons_succ, List.setIfInBounds_toArray, List.set_cons_zero, List.set_cons_succ])
              refine takeSome (i := 5) (v := ?_) (by decide +kernel) rfl (by rfl) (by decide +kernel) (by decide +kernel) (fun _ _ _ h => h) (by assumption) ?_ ?_
              rotate_left
              focus (intro w0 hSw; (try dsimp only at hSw); go_simp; (try (with_reducible rfl)); done)
              (try simp only [Act.put, List.getElem_toArray, List.getElem_cons_zero, List.getElem_cons_succ, List.setIfInBounds_toArray, List.set_cons_zero, List.set_cons_succ])
              refine takeSome (i := 6) (v := ?_) (by decide +kernel) rfl (by rfl) (by decide +kernel) (by decide +kernel) (fun _ _ _ h => h) (by assumption) ?_ ?_
              rotate_left
              focus (intro w0 hSw; (try dsimp only at hSw); go_simp; (try (with_reducible rfl)); done)
              (try simp only [Act.put, List.getElem_toArray, List.getElem_cons_zero, List.getElem_cons_succ, List.setIfInBounds_toArray, List.set_cons_zero, List.set_cons_succ])
              refine takeSome (i := 7) (v := ?_) (by decide +kernel) rfl (by rfl) (by decide +kernel) (by decide +kernel) (fun _ _ _ h => h) (by assumption) ?_ ?_
              rotate_left
              focus (intro w0 hSw; (try dsimp only at hSw); go_simp; (try (with_reducible rfl)); done)
              (try simp only [Act.put, List.getElem_toArray, List.getElem_cons_zero, List.getElem_cons_succ, List.setIfInBounds_toArray, List.set_cons_zero, List.set_cons_succ])
              refine takeSome (i := 8) (v := ?_) (by decide +kernel) rfl (by rfl) (by decide +kernel) (by decide +kernel) (fun _ _ _ h => h) (by assumption) ?_ ?_
              rotate_left
              focus (intro w0 hSw; (try dsimp only at hSw); go_simp; (try (with_reducible rfl)); done)
              (try simp only [Act.put, List.getElem_toArray, List.getElem_cons_zero, List.getElem_cons_succ, List.setIfInBounds_toArray, List.set_cons_zero, List.set_cons_succ])
              refine takeSome (i := 9) (v := ?_) (by decide +kernel) rfl (by rfl) (by decide +kernel) (by decide +kernel) (fun _ _ _ h => h) (by assumption) ?_ ?_
              rotate_left
              focus (intro w0 hSw; (try dsimp only at hSw); go_simp; (try (with_reducible rfl)); done)
              (try simp only [Act.put, List.getElem_toArray, List.getElem_cons_zero, List.getElem_cons_succ, List.setIfInBounds_toArray, List.set_cons_zero, List.set_cons_succ])
              refine takeSome (i := 10) (v := ?_) (by decide +kernel) rfl (by rfl) (by decide +kernel) (by decide +kernel) (fun _ _ _ h => h) (by assumption) ?_ ?_
              rotate_left
              focus (intro w0 hSw; (try dsimp only at hSw); go_simp; (try (with_reducible rfl)); done)
              (try simp only [Act.put, List.getElem_toArray, List.getElem_cons_zero, List.getElem_cons_succ, List.setIfInBounds_toArray, List.set_cons_zero, List.set_cons_succ])
              refine takeSome (i := 11) (v := ?_) (by decide +kernel) rfl (by rfl) (by decide +kernel) (by decide +kernel) (fun _ _ _ h => h) (by assumption) ?_ ?_
              rotate_left
              focus (intro w0 hSw; (try dsimp only at hSw); go_simp; (try (with_reducible rfl)); done)
              (try simp only [Act.put, List.getElem_toArray, List.getElem_cons_zero, List.getElem_cons_succ, List.setIfInBounds_toArray, List.set_cons_zero, List.set_cons_succ])
              refine takeSome (i := 12) (v := ?_) (by decide +kernel) rfl (by rfl) (by decide +kernel) (by decide +kernel) (fun _ _ _ h => h) (by assumption) ?_ ?_
              rotate_left
              focus (intro w0 hSw; (try dsimp only at hSw); go_simp; (try (with_reducible rfl)); done)
              (try simp only [Act.put, List.getElem_toArray, List.getElem_cons_zero, List.getElem_cons_succ, List.setIfInBounds_toArray, List.set_cons_zero, List.set_cons_succ])
              refine takeSome (i := 13) (v := ?_) (by decide +kernel) rfl (by rfl) (by decide +kernel) (by decide +kernel) (fun _ _ _ h => h) (by assumption) ?_ ?_
              rotate_left
              focus (intro w0 hSw; (try dsimp only at hSw); go_simp; (try (with_reducible rfl)); done)
              (try simp only [Act.put, List.getElem_toArray, List.getElem_cons_zero, List.getElem_cons_succ, List.setIfInBounds_toArray, List.set_cons_zero, List.set_cons_succ])
              refine takeSome (i := 14) (v := ?_) (by decide +kernel) rfl (by rfl) (by decide +kernel) (by decide +kernel) (fun _ _ _ h => h) (by assumption) ?_ ?_
              rotate_left
              focus (intro w0 hSw; (try dsimp only at hSw); go_simp; (try (with_reducible rfl)); done)
              (try simp only [Act.put, List.getElem_toArray, List.getElem_cons_zero, List.getElem_cons_succ, List.setIfInBounds_toArray, List.set_cons_zero, List.set_cons_succ])
              refine takeSome (i := 15) (v := ?_) (by decide +kernel) rfl (by rfl) (by decide +kernel) (by decide +kernel) (fun _ _ _ h => h) (by assumption) ?_ ?_
              rotate_left
              focus (intro w0 hSw; (try dsimp only at hSw); go_simp; (try (with_reducible rfl)); done)
              (try simp only [Act.put, List.getElem_toArray, List.getElem_cons_zero, List.getElem_cons_succ, List.setIfInBounds_toArray, List.set_cons_zero, List.set_cons_succ])
              refine takeSome (i := 16) (v := ?_) (by decide +kernel) rfl (by rfl) (by decide +kernel) (by decide +kernel) (fun _ _ _ h => h) (by assumption) ?_ ?_
              rotate_left
              focus (intro w0 hSw; (try dsimp only at hSw); go_simp; (try (with_reducible rfl)); done)
              (try simp only [Act.put, List.getElem_toArray, List.getElem_cons_zero, List.getElem_cons_succ, List.setIfInBounds_toArray, List.set_cons_zero, List.set_cons_succ])
              refine takeSome (i := 17) (v := ?_) (by decide +kernel) rfl (by rfl) (by decide +kernel) (by decide +kernel) (fun _ _ _ h => h) (by assumption) ?_ ?_
              rotate_left
              focus (intro w0 hSw; (try dsimp only at hSw); go_simp; (try (with_reducible rfl)); done)
              (try simp only [Act.put, List.getElem_toArray, List.getElem_cons_zero, List.getElem_cons_succ, List.setIfInBounds_toArray, List.set_cons_zero, List.set_cons_succ])
              refine takeSome (i := 18) (v := ?_) (by decide +kernel) rfl (by rfl) (by decide +kernel) (by decide +kernel) (fun _ _ _ h => h) (by assumption) ?_ ?_
              rotate_left
              focus (intro w0 hSw; (try dsimp only at hSw); go_simp; (try (with_reducible rfl)); done)
              (try simp only [Act.put, List.getElem_toArray, List.getElem_cons_zero, List.getElem_cons_succ, List.setIfInBounds_toArray, List.set_cons_zero, List.set_cons_succ])
              refine takeSome (i := 19) (v := ?_) (by decide +kernel) rfl (by rfl) (by decide +kernel) (by decide +kernel) (fun _ _ _ h => h) (by assumption) ?_ ?_
              rotate_left
              focus (intro w0 hSw; (try dsimp only at hSw); go_simp; (try (with_reducible rfl)); done)
              (try simp only [Act.put, List.getElem_toArray, List.getElem_cons_zero, List.getElem_cons_succ, List.setIfInBounds_toArray, List.set_cons_zero, List.set_cons_succ])
              refine takeSome (i := 20) (v := ?_) (by decide +kernel) rfl (by rfl) (by decide +kernel) (by decide +kernel) (fun _ _ _ h => h) (by assumption) ?_ ?_
              rotate_left
              focus (intro w0 hSw; (try dsimp only at hSw); go_simp; (try (with_reducible rfl)); done)
              (try simp only [Act.put, List.getElem_toArray, List.getElem_cons_zero, List.getElem_cons_succ, List.setIfInBounds_toArray, List.set_cons_zero, List.set_cons_succ])
              refine takeSome (i := 21) (v := ?_) (by decide +kernel) rfl (by rfl) (by decide +kernel) (by decide +kernel) (fun _ _ _ h => h) (by assumption) ?_ ?_
              rotate_left
              focus (intro w0 hSw; (try dsimp only at hSw); go_simp; (try (with_reducible rfl)); done)
              (try simp only [Act.put, List.getElem_toArray, List.getElem_cons_zero, List.getElem_cons_succ, List.setIfInBounds_toArray, List.set_cons_zero, List.set_cons_succ])
              refine takeSome (i := 22) (v := ?_) (by decide +kernel) rfl (by rfl) (by decide +kernel) (by decide +kernel) (fun _ _ _ h => h) (by assumption) ?_ ?_
              rotate_left
              focus (intro w0 hSw; (try dsimp only at hSw); go_simp; (try (with_reducible rfl)); done)
              (try simp only [Act.put, List.getElem_toArray, List.getElem_cons_zero, List.getElem_cons_succ, List.setIfInBounds_toArray, List.set_cons_zero, List.set_cons_succ])
              refine takeSome (i := 23) (v := ?_) (by decide +kernel) rfl (by rfl) (by decide +kernel) (by decide +kernel) (fun _ _ _ h => h) (by assumption) ?_ ?_
              rotate_left
              focus (intro w0 hSw; (try dsimp only at hSw); go_simp; (try (with_reducible rfl)); done)
              (try simp only [Act.put, List.getElem_toArray, List.getElem_cons_zero, List.getElem_cons_succ, List.setIfInBounds_toArray, List.set_cons_zero, List.set_cons_succ])
              refine takeSome (i := 24) (v := ?_) (by decide +kernel) rfl (by rfl) (by decide +kernel) (by decide +kernel) (fun _ _ _ h => h) (by assumption) ?_ ?_
              rotate_left
              focus (intro w0 hSw; (try dsimp only at hSw); go_simp; (try (with_reducible rfl)); done)
              (try simp only [Act.put, List.getElem_toArray, List.getElem_cons_zero, List.getElem_cons_succ, List.setIfInBounds_toArray, List.set_cons_zero, List.set_cons_succ])
              refine takeSome (i := 25) (v := ?_) (by decide +kernel) rfl (by rfl) (by decide +kernel) (by decide +kernel) (fun _ _ _ h => h) (by assumption) ?_ ?_
              rotate_left
              focus (intro w0 hSw; (try dsimp only at hSw); go_simp; (try (with_reducible rfl)); done)
              (try simp only [Act.put, List.getElem_toArray, List.getElem_cons_zero, List.getElem_cons_succ, List.setIfInBounds_toArray, List.set_cons_zero, List.set_cons_succ])
              refine takeSome (i := 26) (v := ?_) (by decide +kernel) rfl (by rfl) (by decide +kernel) (by decide +kernel) (fun _ _ _ h => h) (by assumption) ?_ ?_
              rotate_left
              focus (intro w0 hSw; (try dsimp only at hSw); go_simp; (try (with_reducible rfl)); done)
              (try simp only [Act.put, List.getElem_toArray, List.getElem_cons_zero, List.getElem_cons_succ, List.setIfInBounds_toArray, List.set_cons_zero, List.set_cons_succ])
              refine takeSome (i := 27) (v := ?_) (by decide +kernel) rfl (by rfl) (by decide +kernel) (by decide +kernel) (fun _ _ _ h => h) (by assumption) ?_ ?_
              rotate_left
              focus (intro w0 hSw; (try dsimp only at hSw); go_simp; (try (with_reducible rfl)); done)
              (try simp only [Act.put, List.getElem_toArray, List.getElem_cons_zero, List.getElem_cons_succ, List.setIfInBounds_toArray, List.set_cons_zero, List.set_cons_succ])
              refine wpAnyH_done (by decide +kernel) ?_ _
              clear hHeld
              have hpu := HPU.out
              go_wp2_with fail
              go_roundg (Ur.length - (p + 1))
              case measure => omega
              case rel => exact ⟨p + 1, b1, by first | rfl | trivial, by go_num, by omega, by omega, rfl, Lib.hid ⟨HWQ.out, fun e => ⟨HN0.out.1, fun j h1 h2 h3 h4 => by
                by_cases hj : j = p
                · have h5 := HXE.out j h3 hj
                  rw [h5] at h4
                  exact HQ1.out e h4.2
                · exact HN0.out.2 j h1 (by omega) h3 h4⟩⟩⟩
            · have hxk' : ¬ (xi : Int) = (k : Int) := by omega
              have hxk2 : ((xi : Int) == (k : Int)) = false := by rw [beq_eq_false_iff_ne]; exact hxk'
              have hxk3 : ((k : Int) == (xi : Int)) = false := by rw [beq_eq_false_iff_ne]; omega
              have HXK := Lib.hid hxk
              clear hxk
              refine takeSome (i := 0) (v := ?_) (by decide +kernel) rfl (by rfl) (by decide +kernel) (by decide +kernel) (fun _ _ _ h => h) (by assumption) ?_ ?_
              rotate_left
              focus (intro w0 hSw; (try dsimp only at hSw); go_simp; (try (with_reducible rfl)); done)
              (try simp only [Act.put, List.getElem_toArray, List.getElem_cons_zero, List.setIfInBounds_toArray, List.set_cons_zero, List.set_cons_succ])
              refine takeSome (i := 1) (v := ?_) (by decide +kernel) rfl (by rfl) (by decide +kernel) (by decide +kernel) (fun _ _ _ h => h) (by assumption) ?_ ?_
              rotate_left
              focus (intro w0 hSw; (try dsimp only at hSw); go_simp; (try (with_reducible rfl)); done)
              (try simp only [Act.put, List.getElem_toArray, List.getElem_cons_zero, List.getElem_cons_succ, List.setIfInBounds_toArray, List.set_cons_zero, List.set_cons_succ])
              refine takeSome (i := 2) (v := ?_) (by decide +kernel) rfl (by rfl) (by decide +kernel) (by decide +kernel) (fun _ _ _ h => h) (by assumption) ?_ ?_
              rotate_left
              focus (intro w0 hSw; (try dsimp only at hSw); go_simp; (try (with_reducible rfl)); done)
              (try simp only [Act.put, List.getElem_toArray, List.getElem_cons_zero, List.getElem_cons_succ, List.setIfInBounds_toArray, List.set_cons_zero, List.set_cons_succ])
              refine takeSome (i := 3) (v := ?_) (by decide +kernel) rfl (by rfl) (by decide +kernel) (by decide +kernel) (fun _ _ _ h => h) (by assumption) ?_ ?_
              rotate_left
              focus (intro w0 hSw; (try dsimp only at hSw); go_simp; (try (with_reducible rfl)); done)
              (try simp only [Act.put, List.getElem_toArray, List.getElem_cons_zero, List.getElem_cons_succ, List.setIfInBounds_toArray, List.set_cons_zero, List.set_cons_succ])
              refine takeSome (i := 4) (v := ?_) (by decide +kernel) rfl (by rfl) (by decide +kernel) (by decide +kernel) (fun _ _ _ h => h) (by assumption) ?_ ?_
              rotate_left
              focus (intro w0 hSw; (try dsimp only at hSw); go_simp; (try (with_reducible rfl)); done)
              (try simp only [Act.put, List.getElem_toArray, List.getElem_cons_zero, List.getElem_cons_succ, List.setIfInBounds_toArray, List.set_cons_zero, List.set_cons_succ])
              refine takeSome (i := 5) (v := ?_) (by decide +kernel) rfl (by rfl) (by decide +kernel) (by decide +kernel) (fun _ _ _ h => h) (by assumption) ?_ ?_
              rotate_left
              focus (intro w0 hSw; (try dsimp only at hSw); go_simp; (try (with_reducible rfl)); done)
              (try simp only [Act.put, List.getElem_toArray, List.getElem_cons_zero, List.getElem_cons_succ, List.setIfInBounds_toArray, List.set_cons_zero, List.set_cons_succ])
              refine takeSome (i := 6) (v := ?_) (by decide +kernel) rfl (by rfl) (by decide +kernel) (by decide +kernel) (fun _ _ _ h => h) (by assumption) ?_ ?_
              rotate_left
              focus (intro w0 hSw; (try dsimp only at hSw); go_simp; (try (with_reducible rfl)); done)
              (try simp only [Act.put, List.getElem_toArray, List.getElem_cons_zero, List.getElem_cons_succ, List.setIfInBounds_toArray, List.set_cons_zero, List.set_cons_succ])
              refine takeSome (i := 7) (v := ?_) (by decide +kernel) rfl (by rfl) (by decide +kernel) (by decide +kernel) (fun _ _ _ h => h) (by assumption) ?_ ?_
              rotate_left
              focus (intro w0 hSw; (try dsimp only at hSw); go_simp; (try (with_reducible rfl)); done)
              (try simp only [Act.put, List.getElem_toArray, List.getElem_cons_zero, List.getElem_cons_succ, List.setIfInBounds_toArray, List.set_cons_zero, List.set_cons_succ])
              refine takeSome (i := 8) (v := ?_) (by decide +kernel) rfl (by rfl) (by decide +kernel) (by decide +kernel) (fun _ _ _ h => h) (by assumption) ?_ ?_
              rotate_left
              focus (intro w0 hSw; (try dsimp only at hSw); go_simp; (try (with_reducible rfl)); done)
              (try simp only [Act.put, List.getElem_toArray, List.getElem_cons_zero, List.getElem_cons_succ, List.setIfInBounds_toArray, List.set_cons_zero, List.set_cons_succ])
              refine takeSome (i := 9) (v := ?_) (by decide +kernel) rfl (by rfl) (by decide +kernel) (by decide +kernel) (fun _ _ _ h => h) (by assumption) ?_ ?_
              rotate_left
              focus (intro w0 hSw; (try dsimp only at hSw); go_simp; (try (with_reducible rfl)); done)
              (try simp only [Act.put, List.getElem_toArray, List.getElem_cons_zero, List.getElem_cons_succ, List.setIfInBounds_toArray, List.set_cons_zero, List.set_cons_succ])
              refine takeSome (i := 10) (v := ?_) (by decide +kernel) rfl (by rfl) (by decide +kernel) (by decide +kernel) (fun _ _ _ h => h) (by assumption) ?_ ?_
              rotate_left
              focus (intro w0 hSw; (try dsimp only at hSw); go_simp; (try (with_reducible rfl)); done)
              (try simp only [Act.put, List.getElem_toArray, List.getElem_cons_zero, List.getElem_cons_succ, List.setIfInBounds_toArray, List.set_cons_zero, List.set_cons_succ])
              refine takeSome (i := 11) (v := ?_) (by decide +kernel) rfl (by rfl) (by decide +kernel) (by decide +kernel) (fun _ _ _ h => h) (by assumption) ?_ ?_
              rotate_left
              focus (intro w0 hSw; (try dsimp only at hSw); go_simp; (try (with_reducible rfl)); done)
              (try simp only [Act.put, List.getElem_toArray, List.getElem_cons_zero, List.getElem_cons_succ, List.setIfInBounds_toArray, List.set_cons_zero, List.set_cons_succ])
              refine takeSome (i := 12) (v := ?_) (by decide +kernel) rfl (by rfl) (by decide +kernel) (by decide +kernel) (fun _ _ _ h => h) (by assumption) ?_ ?_
              rotate_left
              focus (intro w0 hSw; (try dsimp only at hSw); go_simp; (try (with_reducible rfl)); done)
              (try simp only [Act.put, List.getElem_toArray, List.getElem_cons_zero, List.getElem_cons_succ, List.setIfInBounds_toArray, List.set_cons_zero, List.set_cons_succ])
              refine takeNone (i := 13) (by decide +kernel) rfl (by rfl) (by decide +kernel) (by decide +kernel) (fun _ _ _ h => h) (by assumption) ?_
              (try simp only [Act.put, List.getElem_toArray, List.getElem_cons_zero, List.getElem_cons_succ, List.setIfInBounds_toArray, List.set_cons_zero, List.set_cons_succ])
              refine takeNone (i := 14) (by decide +kernel) rfl (by rfl) (by decide +kernel) (by decide +kernel) (fun _ _ _ h => h) (by assumption) ?_
              (try simp only [Act.put, List.getElem_toArray, List.getElem_cons_zero, List.getElem_cons_succ, List.setIfInBounds_toArray, List.set_cons_zero, List.set_cons_succ])
              refine takeNone (i := 15) (by decide +kernel) rfl (by rfl) (by decide +kernel) (by decide +kernel) (fun _ _ _ h => h) (by assumption) ?_
              (try simp only [Act.put, List.getElem_toArray, List.getElem_cons_zero, List.getElem_cons_succ, List.setIfInBounds_toArray, List.set_cons_zero, List.set_cons_succ])
              refine takeNone (i := 16) (by decide +kernel) rfl (by rfl) (by decide +kernel) (by decide +kernel) (fun _ _ _ h => h) (by assumption) ?_
              (try simp only [Act.put, List.getElem_toArray, List.getElem_cons_zero, List.getElem_cons_succ, List.setIfInBounds_toArray, List.set_cons_zero, List.set_cons_succ])
              refine takeNone (i := 17) (by decide +kernel) rfl (by rfl) (by decide +kernel) (by decide +kernel) (fun _ _ _ h => h) (by assumption) ?_
              (try simp only [Act.put, List.getElem_toArray, List.getElem_cons_zero, List.getElem_cons_succ, List.setIfInBounds_toArray, List.set_cons_zero, List.set_cons_succ])
              refine takeNone (i := 18) (by decide +kernel) rfl (by rfl) (by decide +kernel) (by decide +kernel) (fun _ _ _ h => h) (by assumption) ?_
              (try simp only [Act.put, List.getElem_toArray, List.getElem_cons_zero, List.getElem_cons_succ, List.setIfInBounds_toArray, List.set_cons_zero, List.set_cons_succ])
              refine takeNone (i := 19) (by decide +kernel) rfl (by rfl) (by decide +kernel) (by decide +kernel) (fun _ _ _ h => h) (by assumption) ?_
              (try simp only [Act.put, List.getElem_toArray, List.getElem_cons_zero, List.getElem_cons_succ, List.setIfInBounds_toArray, List.set_cons_zero, List.set_cons_succ])
              refine takeNone (i := 20) (by decide +kernel) rfl (by rfl) (by decide +kernel) (by decide +kernel) (fun _ _ _ h => h) (by assumption) ?_
              (try simp only [Act.put, List.getElem_toArray, List.getElem_cons_zero, List.getElem_cons_succ, List.setIfInBounds_toArray, List.set_cons_zero, List.set_cons_succ])
              refine takeNone (i := 21) (by decide +kernel) rfl (by rfl) (by decide +kernel) (by decide +kernel) (fun _ _ _ h => h) (by assumption) ?_
              (try simp only [Act.put, List.getElem_toArray, List.getElem_cons_zero, List.getElem_cons_succ, List.setIfInBounds_toArray, List.set_cons_zero, List.set_cons_succ])
              refine takeNone (i := 22) (by decide +kernel) rfl (by rfl) (by decide +kernel) (by decide +kernel) (fun _ _ _ h => h) (by assumption) ?_
              (try simp only [Act.put, List.getElem_toArray, List.getElem_cons_zero, List.getElem_cons_succ, List.setIfInBounds_toArray, List.set_cons_zero, List.set_cons_succ])
              refine takeNone (i := 23) (by decide +kernel) rfl (by rfl) (by decide +kernel) (by decide +kernel) (fun _ _ _ h => h) (by assumption) ?_
              (try simp only [Act.put, List.getElem_toArray, List.getElem_cons_zero, List.getElem_cons_succ, List.setIfInBounds_toArray, List.set_cons_zero, List.set_cons_succ])
              refine takeNone (i := 24) (by decide +kernel) rfl (by rfl) (by decide +kernel) (by decide +kernel) (fun _ _ _ h => h) (by assumption) ?_
              (try simp only [Act.put, List.getElem_toArray, List.getElem_cons_zero, List.getElem_cons_succ, List.setIfInBounds_toArray, List.set_cons_zero, List.set_cons_succ])
              refine takeSome (i := 25) (v := ?_) (by decide +kernel) rfl (by rfl) (by decide +kernel) (by decide +kernel) (fun _ _ _ h => h) (by assumption) ?_ ?_
              rotate_left
              focus (intro w0 hSw; (try dsimp only at hSw); go_simp; (try (with_reducible rfl)); done)
              (try simp only [Act.put, List.getElem_toArray, List.getElem_cons_zero, List.getElem_cons_succ, List.setIfInBounds_toArray, List.set_cons_zero, List.set_cons_succ])
              refine takeSome (i := 26) (v := ?_) (by decide +kernel) rfl (by rfl) (by decide +kernel) (by decide +kernel) (fun _ _ _ h => h) (by assumption) ?_ ?_
              rotate_left
              focus (intro w0 hSw; (try dsimp only at hSw); go_simp; (try (with_reducible rfl)); done)
              (try simp only [Act.put, List.getElem_toArray, List.getElem_cons_zero, List.getElem_cons_succ, List.setIfInBounds_toArray, List.set_cons_zero, List.set_cons_succ])
              refine takeSome (i := 27) (v := ?_) (by decide +kernel) rfl (by rfl) (by decide +kernel) (by decide +kernel) (fun _ _ _ h => h) (by assumption) ?_ ?_
              rotate_left
              focus (intro w0 hSw; (try dsimp only at hSw); go_simp; (try (with_reducible rfl)); done)
              (try simp only [Act.put, List.getElem_toArray, List.getElem_cons_zero, List.getElem_cons_succ, List.setIfInBounds_toArray, List.set_cons_zero, List.set_cons_succ])
              refine wpAnyH_done (by decide +kernel) ?_ _
              clear hHeld
              have hpu := HPU.out
              go_wp2_with fail
              go_roundg (Ur.length - (p + 1))
              case measure => omega
              case rel => exact ⟨p + 1, false, by first | rfl | trivial, by go_num, by omega, by omega, rfl, Lib.hid ⟨HWQ.out, fun e => ⟨HN0.out.1, fun j h1 h2 h3 h4 => by
                by_cases hj : j = p
                · have h5 := HXE.out j h3 hj
                  rw [h5] at h4
                  exact HXK.out h4.1
                · exact HN0.out.2 j h1 (by omega) h3 h4⟩⟩⟩
          · skip
            refine takeSome (i := 0) (v := ?_) (by decide +kernel) rfl (by rfl) (by decide +kernel) (by decide +kernel) (fun _ _ _ h => h) (by assumption) ?_ ?_
            rotate_left
            focus (intro w0 hSw; (try dsimp only at hSw); go_simp; (try (with_reducible rfl)); done)
            (try simp only [Act.put, List.getElem_toArray, List.getElem_cons_zero, List.setIfInBounds_toArray, List.set_cons_zero, List.set_cons_succ])
            refine takeSome (i := 1) (v := ?_) (by decide +kernel) rfl (by rfl) (by decide +kernel) (by decide +kernel) (fun _ _ _ h => h) (by assumption) ?_ ?_
            rotate_left
            focus (intro w0 hSw; (try dsimp only at hSw); go_simp; (try (with_reducible rfl)); done)
            (try simp only [Act.put, List.getElem_toArray, List.getElem_cons_zero, List.getElem_cons_succ, List.setIfInBounds_toArray, List.set_cons_zero, List.set_cons_succ])
            refine takeNone (i := 2) (by decide +kernel) rfl (by rfl) (by decide +kernel) (by decide +kernel) (fun _ _ _ h => h) (by assumption) ?_
            (try simp only [Act.put, List.getElem_toArray, List.getElem_cons_zero, List.getElem_cons_succ, List.setIfInBounds_toArray, List.set_cons_zero, List.set_cons_succ])
            refine takeNone (i := 3) (by decide +kernel) rfl (by rfl) (by decide +kernel) (by decide +kernel) (fun _ _ _ h => h) (by assumption) ?_
            (try simp only [Act.put, List.getElem_toArray, List.getElem_cons_zero, List.getElem_cons_succ, List.setIfInBounds_toArray, List.set_cons_zero, List.set_cons_succ])
            refine takeNone (i := 4) (by decide +kernel) rfl (by rfl) (by decide +kernel) (by decide +kernel) (fun _ _ _ h => h) (by assumption) ?_
            (try simp only [Act.put, List.getElem_toArray, List.getElem_cons_zero, List.getElem_cons_succ, List.setIfInBounds_toArray, List.set_cons_zero, List.set_cons_succ])
            refine takeNone (i := 5) (by decide +kernel) rfl (by rfl) (by decide +kernel) (by decide +kernel) (fun _ _ _ h => h) (by assumption) ?_
            (try simp only [Act.put, List.getElem_toArray, List.getElem_cons_zero, List.getElem_cons_succ, List.setIfInBounds_toArray, List.set_cons_zero, List.set_cons_succ])
            refine takeNone (i := 6) (by decide +kernel) rfl (by rfl) (by decide +kernel) (by decide +kernel) (fun _ _ _ h => h) (by assumption) ?_
            (try simp only [Act.put, List.getElem_toArray, List.getElem_cons_zero, List.getElem_cons_succ, List.setIfInBounds_toArray, List.set_cons_zero, List.set_cons_succ])
            refine takeNone (i := 7) (by decide +kernel) rfl (by rfl) (by decide +kernel) (by decide +kernel) (fun _ _ _ h => h) (by assumption) ?_
            (try simp only [Act.put, List.getElem_toArray, List.getElem_cons_zero, List.getElem_cons_succ, List.setIfInBounds_toArray, List.set_cons_zero, List.set_cons_succ])
            refine takeNone (i := 8) (by decide +kernel) rfl (by rfl) (by decide +kernel) (by decide +kernel) (fun _ _ _ h => h) (by assumption) ?_
            (try simp only [Act.put, List.getElem_toArray, List.getElem_cons_zero, List.getElem_cons_succ, List.setIfInBounds_toArray, List.set_cons_zero, List.set_cons_succ])
            refine takeNone (i := 9) (by decide +kernel) rfl (by rfl) (by decide +kernel) (by decide +kernel) (fun _ _ _ h => h) (by assumption) ?_
            (try simp only [Act.put, List.getElem_toArray, List.getElem_cons_zero, List.getElem_cons_succ, List.setIfInBounds_toArray, List.set_cons_zero, List.set_cons_succ])
            refine takeNone (i := 10) (by decide +kernel) rfl (by rfl) (by decide +kernel) (by decide +kernel) (fun _ _ _ h => h) (by assumption) ?_
            (try simp only [Act.put, List.getElem_toArray, List.getElem_cons_zero, List.getElem_cons_succ, List.setIfInBounds_toArray, List.set_cons_zero, List.set_cons_succ])
            refine takeNone (i := 11) (by decide +kernel) rfl (by rfl) (by decide +kernel) (by decide +kernel) (fun _ _ _ h => h) (by assumption) ?_
            (try simp only [Act.put, List.getElem_toArray, List.getElem_cons_zero, List.getElem_cons_succ, List.setIfInBounds_toArray, List.set_cons_zero, List.set_cons_succ])
            refine takeNone (i := 12) (by decide +kernel) rfl (by rfl) (by decide +kernel) (by decide +kernel) (fun _ _ _ h => h) (by assumption) ?_
            (try simp only [Act.put, List.getElem_toArray, List.getElem_cons_zero, List.getElem_cons_succ, List.setIfInBounds_toArray, List.set_cons_zero, List.set_cons_succ])
            refine takeNone (i := 13) (by decide +kernel) rfl (by rfl) (by decide +kernel) (by decide +kernel) (fun _ _ _ h => h) (by assumption) ?_
            (try simp only [Act.put, List.getElem_toArray, List.getElem_cons_zero, List.getElem_cons_succ, List.setIfInBounds_toArray, List.set_cons_zero, List.set_cons_succ])
            refine takeNone (i := 14) (by decide +kernel) rfl (by rfl) (by decide +kernel) (by decide +kernel) (fun _ _ _ h => h) (by assumption) ?_
            (try simp only [Act.put, List.getElem_toArray, List.getElem_cons_zero, List.getElem_cons_succ, List.setIfInBounds_toArray, List.set_cons_zero, List.set_cons_succ])
            refine takeNone (i := 15) (by decide +kernel) rfl (by rfl) (by decide +kernel) (by decide +kernel) (fun _ _ _ h => h) (by assumption) ?_
            (try simp only [Act.put, List.getElem_toArray, List.getElem_cons_zero, List.getElem_cons_succ, List.setIfInBounds_toArray, List.set_cons_zero, List.set_cons_succ])
            refine takeNone (i := 16) (by decide +kernel) rfl (by rfl) (by decide +kernel) (by decide +kernel) (fun _ _ _ h => h) (by assumption) ?_
            (try simp only [Act.put, List.getElem_toArray, List.getElem_cons_zero, List.getElem_cons_succ, List.setIfInBounds_toArray, List.set_cons_zero, List.set_cons_succ])
            refine takeNone (i := 17) (by decide +kernel) rfl (by rfl) (by decide +kernel) (by decide +kernel) (fun _ _ _ h => h) (by assumption) ?_
            (try simp only [Act.put, List.getElem_toArray, List.getElem_cons_zero, List.getElem_cons_succ, List.setIfInBounds_toArray, List.set_cons_zero, List.set_cons_succ])
            refine takeNone (i := 18) (by decide +kernel) rfl (by rfl) (by decide +kernel) (by decide +kernel) (fun _ _ _ h => h) (by assumption) ?_
            (try simp only [Act.put, List.getElem_toArray, List.getElem_cons_zero, List.getElem_cons_succ, List.setIfInBounds_toArray, List.set_cons_zero, List.set_cons_succ])
            refine takeNone (i := 19) (by decide +kernel) rfl (by rfl) (by decide +kernel) (by decide +kernel) (fun _ _ _ h => h) (by assumption) ?_
            (try simp only [Act.put, List.getElem_toArray, List.getElem_cons_zero, List.getElem_cons_succ, List.setIfInBounds_toArray, List.set_cons_zero, List.set_cons_succ])
            refine takeNone (i := 20) (by decide +kernel) rfl (by rfl) (by decide +kernel) (by decide +kernel) (fun _ _ _ h => h) (by assumption) ?_
            (try simp only [Act.put, List.getElem_toArray, List.getElem_cons_zero, List.getElem_cons_succ, List.setIfInBounds_toArray, List.set_cons_zero, List.set_cons_succ])
            refine takeNone (i := 21) (by decide +kernel) rfl (by rfl) (by decide +kernel) (by decide +kernel) (fun _ _ _ h => h) (by assumption) ?_
            (try simp only [Act.put, List.getElem_toArray, List.getElem_cons_zero, List.getElem_cons_succ, List.setIfInBounds_toArray, List.set_cons_zero, List.set_cons_succ])
            refine takeNone (i := 22) (by decide +kernel) rfl (by rfl) (by decide +kernel) (by decide +kernel) (fun _ _ _ h => h) (by assumption) ?_
            (try simp only [Act.put, List.getElem_toArray, List.getElem_cons_zero, List.getElem_cons_succ, List.setIfInBounds_toArray, List.set_cons_zero, List.set_cons_succ])
            refine takeNone (i := 23) (by decide +kernel) rfl (by rfl) (by decide +kernel) (by decide +kernel) (fun _ _ _ h => h) (by assumption) ?_
            (try simp only [Act.put, List.getElem_toArray, List.getElem_cons_zero, List.getElem_cons_succ, List.setIfInBounds_toArray, List.set_cons_zero, List.set_cons_succ])
            refine takeNone (i := 24) (by decide +kernel) rfl (by rfl) (by decide +kernel) (by decide +kernel) (fun _ _ _ h => h) (by assumption) ?_
            (try simp only [Act.put, List.getElem_toArray, List.getElem_cons_zero, List.getElem_cons_succ, List.setIfInBounds_toArray, List.set_cons_zero, List.set_cons_succ])
            refine takeNone (i := 25) (by decide +kernel) rfl (by rfl) (by decide +kernel) (by decide +kernel) (fun _ _ _ h => h) (by assumption) ?_
            (try simp only [Act.put, List.getElem_toArray, List.getElem_cons_zero, List.getElem_cons_succ, List.setIfInBounds_toArray, List.set_cons_zero, List.set_cons_succ])
            refine takeSome (i := 26) (v := ?_) (by decide +kernel) rfl (by rfl) (by decide +kernel) (by decide +kernel) (fun _ _ _ h => h) (by assumption) ?_ ?_
            rotate_left
            focus (intro w0 hSw; (try dsimp only at hSw); go_simp; (try (with_reducible rfl)); done)
            (try simp only [Act.put, List.getElem_toArray, List.getElem_cons_zero, List.getElem_cons_succ, List.setIfInBounds_toArray, List.set_cons_zero, List.set_cons_succ])
            refine takeSome (i := 27) (v := ?_) (by decide +kernel) rfl (by rfl) (by decide +kernel) (by decide +kernel) (fun _ _ _ h => h) (by assumption) ?_ ?_
            rotate_left
            focus (intro w0 hSw; (try dsimp only at hSw); go_simp; (try (with_reducible rfl)); done)
            (try simp only [Act.put, List.getElem_toArray, List.getElem_cons_zero, List.getElem_cons_succ, List.setIfInBounds_toArray, List.set_cons_zero, List.set_cons_succ])
            refine wpAnyH_done (by decide +kernel) ?_ _
            clear hHeld
            have hpu := HPU.out
            go_wp2_with fail
            go_roundg (Ur.length - (p + 1))
            case measure => omega
            case rel => exact ⟨p + 1, true, by first | rfl | trivial, by go_num, by omega, by omega, rfl, Lib.hid ⟨HWQ.out, fun e => (by cases e)⟩⟩
        · have hp1 : ¬ (p : Int) < (Ur.length : Int) := by omega
          have HOB : Hid (ob = true) := Lib.hid (by
            cases ob
            · exfalso
              obtain ⟨n1, n2⟩ := HQ.out.2 rfl
              rcases HCE.out with e | e
              · exact n1 e
              · unfold DS.un at e
                obtain ⟨j, hj, ej⟩ := List.getElem_of_mem e
                rw [List.length_drop] at hj
                rw [List.getElem_drop] at ej
                have hju : st.n + j < Ur.length := by rw [HUL.out]; omega
                have h7 : WV.w Ur[st.n + j] = st.log[st.n + j]'(by omega) := by
                  have h8 : (Ur.map WV.w)[st.n + j]? = some (WV.w Ur[st.n + j]) := by rw [List.getElem?_map, List.getElem?_eq_getElem hju]; rfl
                  rw [HRA.out.log, List.getElem?_eq_getElem (by omega)] at h8
                  exact (Option.some.inj h8).symm
                rw [ej] at h7
                exact n2 (st.n + j) (by omega) (by omega) hju ⟨congrArg Prod.fst h7, congrArg Prod.snd h7⟩
            · rfl)
          have hob := HOB.out
          subst hob
          have HQQ := Lib.hid HQ.out.1
          have HW7 := Lib.hid HB7.out
          clear HQ
          go_wp2_with fail
          go_roundg (6 - (k + 1))
          case measure => have := HLT.out; omega
          case rel => exact ⟨k + 1, by go_num, by have := HLT.out; omega, rfl, Lib.hid (HW7.out.trans (HQQ.out.mono HW7.out.size))⟩
    · have h6' : ¬ (k : Int) < 6 := by omega
      go_wp2_with fail
      go_ret
      exact ⟨rfl, HEND.out⟩
end Go.Proofs.Ytngfffbnofejmaa
