/- Layer sector, the law's own: do both disks have the same? -/
import Derived.Test.YtngfffbnofejmaaSAct
namespace Go.Proofs.Ytngfffbnofejmaa
open Go.RowKit Go.Lib Go.ChangeMaps Go.MapKept
set_option maxRecDepth 10000 in
set_option maxHeartbeats 4000000 in
theorem alike_any {W : World} {T R : Nat → Prop} {st : DS} {g r : Nat} (h : Both W T R st st g r) (hn : st.log.length ≤ 50000) :
    Calls Try.prog 12 #[.pointer (some ⟨g, 0, none⟩), .pointer (some ⟨r, 0, none⟩)] W fun e w' => e = .returned (.bool true) ∧ Below W.heap.size W w' := by
  have HBT := Lib.hid h
  have HN := Lib.hid hn
  have HU := Lib.hid (Unsure_any h.d (by omega))
  clear h hn
  go_enter Try.func12, Try.ntmps12
  go_upto_region 2 with (go_at_call 18; refine HU.out.mono ?_; rintro e' w1 ⟨v, V, rfl, hb, hl, hm⟩; have HB1 := Lib.hid hb; have HL1 := Lib.hid hl; have HM1 := Lib.hid hm; clear hb hl hm)
  have hbt := HBT.out.grow (HB1.out.drew)
  obtain ⟨A, c, rfl⟩ := HL1.out.shape
  obtain ⟨y, hy⟩ : ∃ y, w1.drew = y := ⟨_, rfl⟩
  have hl1 : LogAt w1.drew (Fresh W w1) (.slice A V.length c) V := HL1.out.on (fun _ h => h) (fun _ _ => rfl)
  have hby : Below W.heap.size W w1.drew := HB1.out.drew
  rw [hy] at hbt hl1 hby
  have HBY := Lib.hid hby
  have HY := Lib.hid hbt
  have HLY := Lib.hid hl1
  have hsz : w1.heap.size = y.heap.size := by rw [← hy]; rfl
  have HSZ := Lib.hid hsz
  obtain ⟨vr, Ur, hr⟩ := hbt.w
  obtain ⟨Ar, cr, rfl⟩ := hr.row.shape
  have HR := Lib.hid hr
  have HUN := Lib.hid (show ((Ur.length : Int) - (st.n : Int)) = (V.length : Int) ∧ Ur.length = st.log.length from by
    have h1 := congrArg List.length hr.log
    have h2 := congrArg List.length HM1.out
    rw [List.length_map] at h1 h2
    unfold DS.un at h2
    rw [List.length_drop] at h2
    have h3 := hr.ok.1
    exact ⟨by omega, h1⟩)
  obtain ⟨q, hq⟩ : ∃ q, Hid (V.length = q) := ⟨_, Lib.hid rfl⟩
  have e9 : (Ur.length : Int) - (st.n : Int) = (q : Int) := by rw [← hq.out]; exact HUN.out.1
  have HQL := Lib.hid (show q ≤ 50000 by have h1 := HUN.out; have h2 := HN.out; have h3 := hq.out; omega)
  have e8 : IntKind.i64.wrap (q : Int) = (q : Int) := wrap_in (by omega) (by have := HQL.out; omega)
  have HLen := Lib.hid (Len_any HY.out.d)
  have HDn := Lib.hid (Down_any HY.out.d)
  rw [hq.out] at HLY ⊢
  have kk : y.cell? ⟨r, 0, none⟩ = some (.int .i64 (st.sz : Nat)) ∧ y.cell? ⟨r, 1, none⟩ = some (.slice Ar Ur.length cr) ∧ y.cell? ⟨r, 2, none⟩ = some (.int .i64 (st.n : Nat)) ∧ y.cell? ⟨r, 4, none⟩ = some (.bool st.out) := ⟨hr.c0, hr.c1, hr.c2, hr.c4⟩
  have KK := Lib.hid kk
  clear hbt hl1 hby hsz hr kk HL1
  refine wp_region_held_drew (S := fun W => W.cell? ⟨r, 0, none⟩ = some (.int .i64 (st.sz : Nat)) ∧ W.cell? ⟨r, 1, none⟩ = some (.slice Ar Ur.length cr) ∧ W.cell? ⟨r, 2, none⟩ = some (.int .i64 (st.n : Nat)) ∧ W.cell? ⟨r, 4, none⟩ = some (.bool st.out)) (by kernel_rfl) ?_ (fun hHeld => ?_)
  · (try dsimp only)
    rw [hy]
    exact KK.out
  rw [hy] at hHeld ⊢
  clear hy
  refine takeSome (i := 0) (v := ?_) (by decide +kernel) rfl (by rfl) (by decide +kernel) (by decide +kernel) (fun _ _ _ h => h) (by assumption) ?_ ?_
  rotate_left
  focus (intro w0 hSw; (try dsimp only at hSw); go_simp; (try (with_reducible rfl)); done)
  (try simp only [Act.put, List.getElem_toArray, List.getElem_cons_zero, List.setIfInBounds_toArray, List.set_cons_zero, List.set_cons_succ])
  refine takeSome (i := 2) (v := ?_) (by decide +kernel) rfl (by rfl) (by decide +kernel) (by decide +kernel) (fun _ _ _ h => h) (by assumption) ?_ ?_
  rotate_left
  focus (intro w0 hSw; (try dsimp only at hSw); go_simp; (try (with_reducible rfl)); done)
  (try simp only [Act.put, List.getElem_toArray, List.getElem_cons_zero, List.getElem_cons_succ, List.setIfInBounds_toArray, List.set_cons_zero, List.set_cons_succ])
  refine takeSome (i := 3) (v := ?_) (by decide +kernel) rfl (by rfl) (by decide +kernel) (by decide +kernel) (fun _ _ _ h => h) (by assumption) ?_ ?_
  rotate_left
  focus (intro w0 hSw; (try dsimp only at hSw); go_simp; (try (with_reducible rfl)); done)
  (try simp only [Act.put, List.getElem_toArray, List.getElem_cons_zero, List.getElem_cons_succ, List.setIfInBounds_toArray, List.set_cons_zero, List.set_cons_succ])
  refine takeSome (i := 4) (v := ?_) (by decide +kernel) rfl (by rfl) (by decide +kernel) (by decide +kernel) (fun _ _ _ h => h) (by assumption) ?_ ?_
  rotate_left
  focus (intro w0 hSw; (try dsimp only at hSw); go_simp; (try (with_reducible rfl)); done)
  (try simp only [Act.put, List.getElem_toArray, List.getElem_cons_zero, List.getElem_cons_succ, List.setIfInBounds_toArray, List.set_cons_zero, List.set_cons_succ])
  refine takeSome (i := 5) (v := ?_) (by decide +kernel) rfl (by rfl) (by decide +kernel) (by decide +kernel) (fun _ _ _ h => h) (by assumption) ?_ ?_
  rotate_left
  focus (intro w0 hSw; (try dsimp only at hSw); go_simp; (try (with_reducible rfl)); done)
  (try simp only [Act.put, List.getElem_toArray, List.getElem_cons_zero, List.getElem_cons_succ, List.setIfInBounds_toArray, List.set_cons_zero, List.set_cons_succ])
  refine wpAnyH_ready (rs := [1]) (by decide +kernel) (by simp) ?_
  refine AllReadyH.cons rfl (fun K hK => ?_) AllReadyH.nil
  (try simp only [List.getElem_toArray, List.getElem_cons_zero, List.getElem_cons_succ])
  go_simp
  (go_at_call 24; refine HLen.out.mono ?_; rintro e' w' ⟨rfl, hwz⟩; have hwz := hwz.symm; subst hwz)
  refine hK.out _ _ ?_ (fun hHeld => ?_)
  focus ((try dsimp only); exact KK.out; done)
  clear hK K
  (try simp only [Act.put, List.getElem_toArray, List.getElem_cons_zero, List.getElem_cons_succ, List.setIfInBounds_toArray, List.set_cons_zero, List.set_cons_succ])
  refine takeSome (i := 6) (v := ?_) (by decide +kernel) rfl (by rfl) (by decide +kernel) (by decide +kernel) (fun _ _ _ h => h) (by assumption) ?_ ?_
  rotate_left
  focus (intro w0 hSw; (try dsimp only at hSw); go_simp; (try (with_reducible rfl)); done)
  (try simp only [Act.put, List.getElem_toArray, List.getElem_cons_zero, List.getElem_cons_succ, List.setIfInBounds_toArray, List.set_cons_zero, List.set_cons_succ])
  refine takeSome (i := 7) (v := ?_) (by decide +kernel) rfl (by rfl) (by decide +kernel) (by decide +kernel) (fun _ _ _ h => h) (by assumption) ?_ ?_
  rotate_left
  focus (intro w0 hSw; (try dsimp only at hSw); go_simp; (try (with_reducible rfl)); done)
  (try simp only [Act.put, List.getElem_toArray, List.getElem_cons_zero, List.getElem_cons_succ, List.setIfInBounds_toArray, List.set_cons_zero, List.set_cons_succ])
  refine takeSome (i := 8) (v := ?_) (by decide +kernel) rfl (by rfl) (by decide +kernel) (by decide +kernel) (fun _ _ _ h => h) (by assumption) ?_ ?_
  rotate_left
  focus (intro w0 hSw; (try dsimp only at hSw); go_simp; (try (with_reducible rfl)); done)
  (try simp only [Act.put, List.getElem_toArray, List.getElem_cons_zero, List.getElem_cons_succ, List.setIfInBounds_toArray, List.set_cons_zero, List.set_cons_succ])
  refine takeSome (i := 10) (v := ?_) (by decide +kernel) rfl (by rfl) (by decide +kernel) (by decide +kernel) (fun _ _ _ h => h) (by assumption) ?_ ?_
  rotate_left
  focus (intro w0 hSw; (try dsimp only at hSw); go_simp; (try (with_reducible rfl)); done)
  (try simp only [Act.put, List.getElem_toArray, List.getElem_cons_zero, List.getElem_cons_succ, List.setIfInBounds_toArray, List.set_cons_zero, List.set_cons_succ])
  refine takeSome (i := 11) (v := ?_) (by decide +kernel) rfl (by rfl) (by decide +kernel) (by decide +kernel) (fun _ _ _ h => h) (by assumption) ?_ ?_
  rotate_left
  focus (intro w0 hSw; (try dsimp only at hSw); go_simp; (try (with_reducible rfl)); done)
  (try simp only [Act.put, List.getElem_toArray, List.getElem_cons_zero, List.getElem_cons_succ, List.setIfInBounds_toArray, List.set_cons_zero, List.set_cons_succ])
  refine takeSome (i := 12) (v := ?_) (by decide +kernel) rfl (by rfl) (by decide +kernel) (by decide +kernel) (fun _ _ _ h => h) (by assumption) ?_ ?_
  rotate_left
  focus (intro w0 hSw; (try dsimp only at hSw); go_simp; (try (with_reducible rfl)); done)
  (try simp only [Act.put, List.getElem_toArray, List.getElem_cons_zero, List.getElem_cons_succ, List.setIfInBounds_toArray, List.set_cons_zero, List.set_cons_succ])
  refine takeSome (i := 13) (v := ?_) (by decide +kernel) rfl (by rfl) (by decide +kernel) (by decide +kernel) (fun _ _ _ h => h) (by assumption) ?_ ?_
  rotate_left
  focus (intro w0 hSw; (try dsimp only at hSw); go_simp; (try (with_reducible rfl)); done)
  (try simp only [Act.put, List.getElem_toArray, List.getElem_cons_zero, List.getElem_cons_succ, List.setIfInBounds_toArray, List.set_cons_zero, List.set_cons_succ])
  refine wpAnyH_ready (rs := [9]) (by decide +kernel) (by simp) ?_
  refine AllReadyH.cons rfl (fun K hK => ?_) AllReadyH.nil
  (try simp only [List.getElem_toArray, List.getElem_cons_zero, List.getElem_cons_succ])
  go_simp
  (go_at_call 19; refine HDn.out.mono ?_; rintro e' w' ⟨rfl, hwz⟩; have hwz := hwz.symm; subst hwz)
  refine hK.out _ _ ?_ (fun hHeld => ?_)
  focus ((try dsimp only); exact KK.out; done)
  clear hK K
  (try simp only [Act.put, List.getElem_toArray, List.getElem_cons_zero, List.getElem_cons_succ, List.setIfInBounds_toArray, List.set_cons_zero, List.set_cons_succ])
  refine takeSome (i := 14) (v := ?_) (by decide +kernel) rfl (by rfl) (by decide +kernel) (by decide +kernel) (fun _ _ _ h => h) (by assumption) ?_ ?_
  rotate_left
  focus (intro w0 hSw; (try dsimp only at hSw); go_simp; (try (with_reducible rfl)); done)
  (try simp only [Act.put, List.getElem_toArray, List.getElem_cons_zero, List.getElem_cons_succ, List.setIfInBounds_toArray, List.set_cons_zero, List.set_cons_succ])
  refine takeSome (i := 15) (v := ?_) (by decide +kernel) rfl (by rfl) (by decide +kernel) (by decide +kernel) (fun _ _ _ h => h) (by assumption) ?_ ?_
  rotate_left
  focus (intro w0 hSw; (try dsimp only at hSw); go_simp; (try (with_reducible rfl)); done)
  (try simp only [Act.put, List.getElem_toArray, List.getElem_cons_zero, List.getElem_cons_succ, List.setIfInBounds_toArray, List.set_cons_zero, List.set_cons_succ])
  refine takeSome (i := 16) (v := ?_) (by decide +kernel) rfl (by rfl) (by decide +kernel) (by decide +kernel) (fun _ _ _ h => h) (by assumption) ?_ ?_
  rotate_left
  focus (intro w0 hSw; (try dsimp only at hSw); go_simp; (try (with_reducible rfl)); done)
  (try simp only [Act.put, List.getElem_toArray, List.getElem_cons_zero, List.getElem_cons_succ, List.setIfInBounds_toArray, List.set_cons_zero, List.set_cons_succ])
  refine takeSome (i := 17) (v := ?_) (by decide +kernel) rfl (by rfl) (by decide +kernel) (by decide +kernel) (fun _ _ _ h => h) (by assumption) ?_ ?_
  rotate_left
  focus (intro w0 hSw; (try dsimp only at hSw); go_simp; (try (with_reducible rfl)); done)
  (try simp only [Act.put, List.getElem_toArray, List.getElem_cons_zero, List.getElem_cons_succ, List.setIfInBounds_toArray, List.set_cons_zero, List.set_cons_succ])
  refine takeSome (i := 18) (v := ?_) (by decide +kernel) rfl (by rfl) (by decide +kernel) (by decide +kernel) (fun _ _ _ h => h) (by assumption) ?_ ?_
  rotate_left
  focus (intro w0 hSw; (try dsimp only at hSw); go_simp; (try (with_reducible rfl)); done)
  (try simp only [Act.put, List.getElem_toArray, List.getElem_cons_zero, List.getElem_cons_succ, List.setIfInBounds_toArray, List.set_cons_zero, List.set_cons_succ])
  refine takeSome (i := 19) (v := ?_) (by decide +kernel) rfl (by rfl) (by decide +kernel) (by decide +kernel) (fun _ _ _ h => h) (by assumption) ?_ ?_
  rotate_left
  focus (intro w0 hSw; (try dsimp only at hSw); go_simp; (try (with_reducible rfl)); done)
  (try simp only [Act.put, List.getElem_toArray, List.getElem_cons_zero, List.getElem_cons_succ, List.setIfInBounds_toArray, List.set_cons_zero, List.set_cons_succ])
  refine takeSome (i := 20) (v := ?_) (by decide +kernel) rfl (by rfl) (by decide +kernel) (by decide +kernel) (fun _ _ _ h => h) (by assumption) ?_ ?_
  rotate_left
  focus (intro w0 hSw; (try dsimp only at hSw); go_simp; (try (with_reducible rfl)); done)
  (try simp only [Act.put, List.getElem_toArray, List.getElem_cons_zero, List.getElem_cons_succ, List.setIfInBounds_toArray, List.set_cons_zero, List.set_cons_succ])
  refine takeSome (i := 21) (v := ?_) (by decide +kernel) rfl (by rfl) (by decide +kernel) (by decide +kernel) (fun _ _ _ h => h) (by assumption) ?_ ?_
  rotate_left
  focus (intro w0 hSw; (try dsimp only at hSw); go_simp; (try (with_reducible rfl)); done)
  (try simp only [Act.put, List.getElem_toArray, List.getElem_cons_zero, List.getElem_cons_succ, List.setIfInBounds_toArray, List.set_cons_zero, List.set_cons_succ])
  refine takeSome (i := 22) (v := ?_) (by decide +kernel) rfl (by rfl) (by decide +kernel) (by decide +kernel) (fun _ _ _ h => h) (by assumption) ?_ ?_
  rotate_left
  focus (intro w0 hSw; (try dsimp only at hSw); go_simp; (try (with_reducible rfl)); done)
  (try simp only [Act.put, List.getElem_toArray, List.getElem_cons_zero, List.getElem_cons_succ, List.setIfInBounds_toArray, List.set_cons_zero, List.set_cons_succ])
  refine takeSome (i := 23) (v := ?_) (by decide +kernel) rfl (by rfl) (by decide +kernel) (by decide +kernel) (fun _ _ _ h => h) (by assumption) ?_ ?_
  rotate_left
  focus (intro w0 hSw; (try dsimp only at hSw); go_simp; (try (with_reducible rfl)); done)
  (try simp only [Act.put, List.getElem_toArray, List.getElem_cons_zero, List.getElem_cons_succ, List.setIfInBounds_toArray, List.set_cons_zero, List.set_cons_succ])
  refine takeSome (i := 24) (v := ?_) (by decide +kernel) rfl (by rfl) (by decide +kernel) (by decide +kernel) (fun _ _ _ h => h) (by assumption) ?_ ?_
  rotate_left
  focus (intro w0 hSw; (try dsimp only at hSw); go_simp; (try (with_reducible rfl)); done)
  (try simp only [Act.put, List.getElem_toArray, List.getElem_cons_zero, List.getElem_cons_succ, List.setIfInBounds_toArray, List.set_cons_zero, List.set_cons_succ])
  refine takeSome (i := 25) (v := ?_) (by decide +kernel) rfl (by rfl) (by decide +kernel) (by decide +kernel) (fun _ _ _ h => h) (by assumption) ?_ ?_
  rotate_left
  focus (intro w0 hSw; (try dsimp only at hSw); go_simp; (try (with_reducible rfl)); done)
  (try simp only [Act.put, List.getElem_toArray, List.getElem_cons_zero, List.getElem_cons_succ, List.setIfInBounds_toArray, List.set_cons_zero, List.set_cons_succ])
  refine takeSome (i := 26) (v := ?_) (by decide +kernel) rfl (by rfl) (by decide +kernel) (by decide +kernel) (fun _ _ _ h => h) (by assumption) ?_ ?_
  rotate_left
  focus (intro w0 hSw; (try dsimp only at hSw); go_simp; (try (with_reducible rfl)); done)
  (try simp only [Act.put, List.getElem_toArray, List.getElem_cons_zero, List.getElem_cons_succ, List.setIfInBounds_toArray, List.set_cons_zero, List.set_cons_succ])
  refine takeSome (i := 27) (v := ?_) (by decide +kernel) rfl (by rfl) (by decide +kernel) (by decide +kernel) (fun _ _ _ h => h) (by assumption) ?_ ?_
  rotate_left
  focus (intro w0 hSw; (try dsimp only at hSw); go_simp; (try (with_reducible rfl)); done)
  (try simp only [Act.put, List.getElem_toArray, List.getElem_cons_zero, List.getElem_cons_succ, List.setIfInBounds_toArray, List.set_cons_zero, List.set_cons_succ])
  refine takeSome (i := 28) (v := ?_) (by decide +kernel) rfl (by rfl) (by decide +kernel) (by decide +kernel) (fun _ _ _ h => h) (by assumption) ?_ ?_
  rotate_left
  focus (intro w0 hSw; (try dsimp only at hSw); go_simp; (try (with_reducible rfl)); done)
  (try simp only [Act.put, List.getElem_toArray, List.getElem_cons_zero, List.getElem_cons_succ, List.setIfInBounds_toArray, List.set_cons_zero, List.set_cons_succ])
  refine takeSome (i := 29) (v := ?_) (by decide +kernel) rfl (by rfl) (by decide +kernel) (by decide +kernel) (fun _ _ _ h => h) (by assumption) ?_ ?_
  rotate_left
  focus (intro w0 hSw; (try dsimp only at hSw); go_simp; (try (with_reducible rfl)); done)
  (try simp only [Act.put, List.getElem_toArray, List.getElem_cons_zero, List.getElem_cons_succ, List.setIfInBounds_toArray, List.set_cons_zero, List.set_cons_succ])
  refine takeSome (i := 30) (v := ?_) (by decide +kernel) rfl (by rfl) (by decide +kernel) (by decide +kernel) (fun _ _ _ h => h) (by assumption) ?_ ?_
  rotate_left
  focus (intro w0 hSw; (try dsimp only at hSw); go_simp; (try (with_reducible rfl)); done)
  (try simp only [Act.put, List.getElem_toArray, List.getElem_cons_zero, List.getElem_cons_succ, List.setIfInBounds_toArray, List.set_cons_zero, List.set_cons_succ])
  refine wpAnyH_done (by decide +kernel) ?_ _
  clear hHeld
  go_wp2_with fail
  go_loopg [6] q (fun m i wr => ∃ k : Nat, i = .int .i64 k ∧ k ≤ q ∧ m = q - k ∧ Hid (Below y.heap.size y wr))
  case atStart => exact ⟨0, rfl, Nat.zero_le _, rfl, Lib.hid (Below.refl _ _)⟩
  case round =>
    obtain ⟨k, rfl, hk, rfl, HB⟩ := hrel
    by_cases hlt : k < q
    · have hl1 : (k : Int) < (q : Int) := by omega
      have hl0 : (0 : Int) ≤ (k : Int) := by omega
      have HKK := Lib.hid hk
      have HLT := Lib.hid hlt
      have hkV : k < V.length := by rw [hq.out]; exact hlt
      obtain ⟨p, hp⟩ : ∃ p : Nat, Hid (st.n + k = p) := ⟨_, Lib.hid rfl⟩
      have hpU : p < Ur.length := by have h1 := HUN.out.1; have h2 := hp.out; omega
      have epk : (st.n : Int) + (k : Int) = (p : Int) := by have := hp.out; omega
      have ewp : IntKind.i64.wrap (p : Int) = (p : Int) := wrap_in (by omega) (by have := HUN.out.2; have := HN.out; omega)
      have hp1 : (p : Int) < (Ur.length : Int) := by omega
      have hp0 : (0 : Int) ≤ (p : Int) := by omega
      have HE := Lib.hid (show WV.w V[k] = WV.w Ur[p] by
        have h1 : (V.map WV.w)[k]? = some (WV.w V[k]) := by rw [List.getElem?_map, List.getElem?_eq_getElem hkV]; rfl
        have h2 : (Ur.map WV.w)[p]? = some (WV.w Ur[p]) := by rw [List.getElem?_map, List.getElem?_eq_getElem hpU]; rfl
        rw [HM1.out] at h1
        rw [HR.out.log] at h2
        unfold DS.un at h1
        rw [List.getElem?_drop, hp.out, h2] at h1
        exact (Option.some.inj h1).symm)
      have HZ := HLY.out
      rw [← hq.out] at HZ
      obtain ⟨b, c', ev, r0, r1⟩ := HR.out.row.get hpU
      have eb := (Value.slice.inj ev).1
      obtain ⟨b', c'', ev', v0, v1⟩ := HZ.get hkV
      have eb' := (Value.slice.inj ev').1
      have HXR := Lib.hid (HR.out.row.sv _ (List.getElem_mem hpU))
      have HXV := Lib.hid (HZ.sv _ (List.getElem_mem hkV))
      have hbl : b < y.heap.size := by
        obtain ⟨cur, hh⟩ := HR.out.row.blk (k := b) (by rw [eb]; rfl)
        exact blk_lt hh
      have hbl' : b' < y.heap.size := by
        obtain ⟨cur, hh⟩ := HZ.blk (k := b') (by rw [eb']; rfl)
        exact blk_lt hh
      subst eb
      subst eb'
      generalize Ur[p] = x at *
      generalize V[k] = z at *
      obtain ⟨xi, xA, xc, xb⟩ := x
      obtain ⟨zi, zA, zc, zb⟩ := z
      have hE1 : zi = xi := congrArg Prod.fst HE.out
      have hE2 : zb = xb := congrArg Prod.snd HE.out
      subst hE1
      subst hE2
      have hxl : zb.length = 512 := HXR.out.2.1
      have HXL := Lib.hid hxl
      have r1' : y.cell? ⟨b, p * 2 + 1, none⟩ = some (.slice xA 512 xc) := by rw [r1, ← hxl]; rfl
      have v1' : y.cell? ⟨b', k * 2 + 1, none⟩ = some (.slice zA 512 zc) := by rw [v1, ← hxl]; rfl
      have hbw := HB.out.drew
      obtain ⟨u, hu⟩ : ∃ u, wr.drew = u := ⟨_, rfl⟩
      rw [hu] at hbw
      have HBW := Lib.hid hbw
      have hcu := fun (i j : Nat) (hi : i < y.heap.size) => HBW.out.cell (p := ⟨i, j, none⟩) hi
      have g1 := (hcu r 1 (blk_lt HR.out.blk)).trans KK.out.2.1
      have g2 := (hcu r 2 (blk_lt HR.out.blk)).trans KK.out.2.2.1
      have g3 := (hcu b (p * 2) hbl).trans r0
      have g4 := (hcu b (p * 2 + 1) hbl).trans r1'
      have HS := Lib.hid (show u.cell? ⟨r, 1, none⟩ = some (.slice (some ⟨b, 0, none⟩) Ur.length cr) ∧ u.cell? ⟨r, 2, none⟩ = some (.int .i64 (st.n : Nat)) ∧ u.cell? ⟨b, p * 2, none⟩ = some (.int .i64 (zi : Nat)) ∧ u.cell? ⟨b, p * 2 + 1, none⟩ = some (.slice xA 512 xc) from ⟨g1, g2, g3, g4⟩)
      have HV0 := Lib.hid (show y.cell? ⟨b', k * 2, none⟩ = some (.int .i64 (zi : Nat)) ∧ y.cell? ⟨b', k * 2 + 1, none⟩ = some (.slice zA 512 zc) from ⟨v0, v1'⟩)
      have HBL := Lib.hid (show r < y.heap.size ∧ b < y.heap.size ∧ b' < y.heap.size from ⟨blk_lt HR.out.blk, hbl, hbl'⟩)
      clear hcu g1 g2 g3 g4 r0 r1 r1' v0 v1 v1' hbl hbl' hbw HZ ev ev' hxl e9
      go_upto_region 7 with (fail)
      refine wp_region_held_drew (S := fun W => W.cell? ⟨r, 1, none⟩ = some (.slice (some ⟨b, 0, none⟩) Ur.length cr) ∧ W.cell? ⟨r, 2, none⟩ = some (.int .i64 (st.n : Nat)) ∧ W.cell? ⟨b, p * 2, none⟩ = some (.int .i64 (zi : Nat)) ∧ W.cell? ⟨b, p * 2 + 1, none⟩ = some (.slice xA 512 xc)) (by kernel_rfl) ?_ (fun hHeld => ?_)
      · (try dsimp only)
        rw [hu]
        exact HS.out
      rw [hu] at hHeld ⊢
      clear hu
      refine takeSome (i := 0) (v := ?_) (by decide +kernel) rfl (by rfl) (by decide +kernel) (by decide +kernel) (fun _ _ _ h => h) (by assumption) ?_ ?_
      rotate_left
      focus (intro w0 hSw; (try dsimp only at hSw); go_simp; (try (with_reducible rfl)); done)
      (try simp only [Act.put, List.getElem_toArray, List.getElem_cons_zero, List.setIfInBounds_toArray, List.set_cons_zero, List.set_cons_succ])
      refine takeSome (i := 1) (v := ?_) (by decide +kernel) rfl (by rfl) (by decide +kernel) (by decide +kernel) (fun _ _ _ h => h) (by assumption) ?_ ?_
      rotate_left
      focus (intro w0 hSw; (try dsimp only at hSw); go_simp; (try (with_reducible rfl)); done)
      (try simp only [Act.put, List.getElem_toArray, List.getElem_cons_zero, List.getElem_cons_succ, List.setIfInBounds_toArray, List.set_cons_zero, List.set_cons_succ])
      refine takeSome (i := 2) (v := ?_) (by decide +kernel) rfl (by rfl) (by decide +kernel) (by decide +kernel) (fun _ _ _ h => h) (by assumption) ?_ ?_
      rotate_left
      focus (intro w0 hSw; (try dsimp only at hSw); go_simp; (try (with_reducible rfl)); done)
      (try simp only [Act.put, List.getElem_toArray, List.getElem_cons_zero, List.getElem_cons_succ, List.setIfInBounds_toArray, List.set_cons_zero, List.set_cons_succ])
      refine takeSome (i := 3) (v := ?_) (by decide +kernel) rfl (by rfl) (by decide +kernel) (by decide +kernel) (fun _ _ _ h => h) (by assumption) ?_ ?_
      rotate_left
      focus (intro w0 hSw; (try dsimp only at hSw); go_simp; (try (with_reducible rfl)); done)
      (try simp only [Act.put, List.getElem_toArray, List.getElem_cons_zero, List.getElem_cons_succ, List.setIfInBounds_toArray, List.set_cons_zero, List.set_cons_succ])
      refine takeSome (i := 4) (v := ?_) (by decide +kernel) rfl (by rfl) (by decide +kernel) (by decide +kernel) (fun _ _ _ h => h) (by assumption) ?_ ?_
      rotate_left
      focus (intro w0 hSw; (try dsimp only at hSw); go_simp; (try (with_reducible rfl)); done)
      (try simp only [Act.put, List.getElem_toArray, List.getElem_cons_zero, List.getElem_cons_succ, List.setIfInBounds_toArray, List.set_cons_zero, List.set_cons_succ])
      refine takeSome (i := 5) (v := ?_) (by decide +kernel) rfl (by rfl) (by decide +kernel) (by decide +kernel) (fun _ _ _ h => h) (by assumption) ?_ ?_
      rotate_left
      focus (intro w0 hSw; (try dsimp only at hSw); go_simp; (try (with_reducible rfl)); done)
      (try simp only [Act.put, List.getElem_toArray, List.getElem_cons_zero, List.getElem_cons_succ, List.setIfInBounds_toArray, List.set_cons_zero, List.set_cons_succ])
      refine takeSome (i := 6) (v := ?_) (by decide +kernel) rfl (by rfl) (by decide +kernel) (by decide +kernel) (fun _ _ _ h => h) (by assumption) ?_ ?_
      rotate_left
      focus (intro w0 hSw; (try dsimp only at hSw); go_simp; (try (with_reducible rfl)); done)
      (try simp only [Act.put, List.getElem_toArray, List.getElem_cons_zero, List.getElem_cons_succ, List.setIfInBounds_toArray, List.set_cons_zero, List.set_cons_succ])
      refine takeSome (i := 7) (v := ?_) (by decide +kernel) rfl (by rfl) (by decide +kernel) (by decide +kernel) (fun _ _ _ h => h) (by assumption) ?_ ?_
      rotate_left
      focus (intro w0 hSw; (try dsimp only at hSw); go_simp; (try (with_reducible rfl)); done)
      (try simp only [Act.put, List.getElem_toArray, List.getElem_cons_zero, List.getElem_cons_succ, List.setIfInBounds_toArray, List.set_cons_zero, List.set_cons_succ])
      refine takeSome (i := 8) (v := ?_) (by decide +kernel) rfl (by rfl) (by decide +kernel) (by decide +kernel) (fun _ _ _ h => h) (by assumption) ?_ ?_
      rotate_left
      focus (intro w0 hSw; (try dsimp only at hSw); go_simp; (try (with_reducible rfl)); done)
      (try simp only [Act.put, List.getElem_toArray, List.getElem_cons_zero, List.getElem_cons_succ, List.setIfInBounds_toArray, List.set_cons_zero, List.set_cons_succ])
      refine takeSome (i := 9) (v := ?_) (by decide +kernel) rfl (by rfl) (by decide +kernel) (by decide +kernel) (fun _ _ _ h => h) (by assumption) ?_ ?_
      rotate_left
      focus (intro w0 hSw; (try dsimp only at hSw); go_simp; (try (with_reducible rfl)); done)
      (try simp only [Act.put, List.getElem_toArray, List.getElem_cons_zero, List.getElem_cons_succ, List.setIfInBounds_toArray, List.set_cons_zero, List.set_cons_succ])
      refine takeSome (i := 10) (v := ?_) (by decide +kernel) rfl (by rfl) (by decide +kernel) (by decide +kernel) (fun _ _ _ h => h) (by assumption) ?_ ?_
      rotate_left
      focus (intro w0 hSw; (try dsimp only at hSw); go_simp; (try (with_reducible rfl)); done)
      (try simp only [Act.put, List.getElem_toArray, List.getElem_cons_zero, List.getElem_cons_succ, List.setIfInBounds_toArray, List.set_cons_zero, List.set_cons_succ])
      refine takeSome (i := 11) (v := ?_) (by decide +kernel) rfl (by rfl) (by decide +kernel) (by decide +kernel) (fun _ _ _ h => h) (by assumption) ?_ ?_
      rotate_left
      focus (intro w0 hSw; (try dsimp only at hSw); go_simp; (try (with_reducible rfl)); done)
      (try simp only [Act.put, List.getElem_toArray, List.getElem_cons_zero, List.getElem_cons_succ, List.setIfInBounds_toArray, List.set_cons_zero, List.set_cons_succ])
      have ha := Below.alloc (Below.refl u.heap.size u) (Nat.le_refl _) (Obj.cells #[.int .i64 0, .slice none 0 0] 51 (0, 0))
      have hal := heap_alloc_new u (Obj.cells #[.int .i64 0, .slice none 0 0] 51 (0, 0))
      obtain ⟨u2, hu2⟩ : ∃ v, u.alloc (Obj.cells #[.int .i64 0, .slice none 0 0] 51 (0, 0)) = v := ⟨_, rfl⟩
      obtain ⟨bx, hbx⟩ : ∃ v, u.heap.size = v := ⟨_, rfl⟩
      rw [hu2] at ha hal
      rw [hbx] at hal
      have q0 : u2.cell? ⟨bx, 0, none⟩ = some (.int .i64 0) := blk_cell hal 0
      have f0 := blk_frozen hal 0
      have b1 := blk_set hal 0 (.int .i64 (zi : Nat))
      simp only [List.setIfInBounds_toArray, List.set_cons_zero] at b1
      have q1 : (u2.setCell ⟨bx, 0, none⟩ (.int .i64 (zi : Nat))).cell? ⟨bx, 1, none⟩ = some (.slice none 0 0) := blk_cell b1 1
      have f1 := blk_frozen b1 1
      have b2 := blk_set b1 1 (.slice xA 512 xc)
      simp only [List.setIfInBounds_toArray, List.set_cons_succ, List.set_cons_zero] at b2
      have hbz : y.heap.size ≤ bx := by rw [← hbx]; exact HBW.out.size
      have HB2 : Hid (Below y.heap.size y u2) := Lib.hid (HBW.out.trans (ha.mono HBW.out.size))
      have HB3 : Hid (Below y.heap.size y ((u2.setCell ⟨bx, 0, none⟩ (.int .i64 (zi : Nat))).setCell ⟨bx, 1, none⟩ (.slice xA 512 xc))) := Lib.hid ((HB2.out.setCell hbz _).setCell hbz _)
      have hst : ∀ W', Below y.heap.size y W' → W'.cell? ⟨r, 1, none⟩ = some (.slice (some ⟨b, 0, none⟩) Ur.length cr) ∧ W'.cell? ⟨r, 2, none⟩ = some (.int .i64 (st.n : Nat)) ∧ W'.cell? ⟨b, p * 2, none⟩ = some (.int .i64 (zi : Nat)) ∧ W'.cell? ⟨b, p * 2 + 1, none⟩ = some (.slice xA 512 xc) := fun W' hh =>
        have e := fun (i j : Nat) (hi : i < y.heap.size) => (hh.cell (p := ⟨i, j, none⟩) hi).trans (HBW.out.cell (p := ⟨i, j, none⟩) hi).symm
        ⟨(e r 1 HBL.out.1).trans HS.out.1, (e r 2 HBL.out.1).trans HS.out.2.1, (e b (p * 2) HBL.out.2.1).trans HS.out.2.2.1, (e b (p * 2 + 1) HBL.out.2.1).trans HS.out.2.2.2⟩
      have HST := Lib.hid hst
      have HBX := Lib.hid b2
      clear ha hal b1 b2 hbz hst
      refine wpAnyH_ready (rs := [12]) (by decide +kernel) (by simp) ?_
      refine AllReadyH.cons rfl (fun K hK => ?_) AllReadyH.nil
      (try simp only [List.getElem_toArray, List.getElem_cons_zero, List.getElem_cons_succ])
      go_simp
      refine hK.out _ _ ?_ (fun hHeld => ?_)
      focus ((try dsimp only); exact HST.out _ HB2.out; done)
      clear hK K
      (try simp only [Act.put, List.getElem_toArray, List.getElem_cons_zero, List.getElem_cons_succ, List.setIfInBounds_toArray, List.set_cons_zero, List.set_cons_succ])
      refine wpAnyH_ready (rs := [13]) (by decide +kernel) (by simp) ?_
      refine AllReadyH.cons rfl (fun K hK => ?_) AllReadyH.nil
      (try simp only [List.getElem_toArray, List.getElem_cons_zero, List.getElem_cons_succ])
      go_simp
      refine hK.out _ _ ?_ (fun hHeld => ?_)
      focus ((try dsimp only); exact HST.out _ HB3.out; done)
      clear hK K
      (try simp only [Act.put, List.getElem_toArray, List.getElem_cons_zero, List.getElem_cons_succ, List.setIfInBounds_toArray, List.set_cons_zero, List.set_cons_succ])
      refine wpAnyH_done (by decide +kernel) ?_ _
      clear hHeld q0 f0 q1 f1 hu2
      obtain ⟨w3, hw3⟩ : ∃ v, (u2.setCell ⟨bx, 0, none⟩ (.int .i64 (zi : Nat))).setCell ⟨bx, 1, none⟩ (.slice xA 512 xc) = v := ⟨_, rfl⟩
      rw [hw3] at HB3 HBX
      try rw [hw3]
      clear hw3
      have hX3 : SvAt w3 R ⟨xA, xc, zb⟩ := HXR.out.on (fun _ h => h) (fun k h1 _ => HB3.out.block k (HR.out.ter k h1))
      have hZ3 : SvAt w3 (Fresh W w1) ⟨zA, zc, zb⟩ := HXV.out.on (fun _ h => h) (fun k h1 _ => HB3.out.block k (by have := h1.2; rw [HSZ.out] at this; exact this))
      obtain ⟨s, hs⟩ : ∃ s : ByteArray, Hid (s = ⟨zb.toArray⟩) := ⟨_, Lib.hid rfl⟩
      have hcx := conv_str (c := xc) hX3.1
      have hcz := conv_str (c := zc) hZ3.1
      dsimp only at hcx hcz
      rw [HXL.out, ← hs.out] at hcx hcz
      have hbd := HB3.out.drew
      have hxd : w3.drew.heap[bx]? = _ := HBX.out
      have hcx' : (convert 43 9 (.slice xA 512 xc)).run Try.prog w3.drew = .ok (.string s) w3.drew := by
        have h1 := conv_str (c := xc) (bytes_on (W' := w3.drew) hX3.1 (grew_drew (World.grownBy.refl w3 none)) (fun _ _ => by simp))
        dsimp only at h1
        rw [HXL.out, ← hs.out] at h1
        exact h1
      have hcz' : (convert 43 9 (.slice zA 512 zc)).run Try.prog w3.drew = .ok (.string s) w3.drew := by
        have h1 := conv_str (c := zc) (bytes_on (W' := w3.drew) hZ3.1 (grew_drew (World.grownBy.refl w3 none)) (fun _ _ => by simp))
        dsimp only at h1
        rw [HXL.out, ← hs.out] at h1
        exact h1
      clear hX3 hZ3 hcx hcz
      go_upto_region 8 with (fail)
      obtain ⟨u4, hu4⟩ : ∃ v, w3.drew = v := ⟨_, rfl⟩
      rw [hu4] at hbd hxd hcx' hcz'
      have HBD := Lib.hid hbd
      have hS4 : u4.cell? ⟨b', k * 2, none⟩ = some (.int .i64 (zi : Nat)) ∧ u4.cell? ⟨b', k * 2 + 1, none⟩ = some (.slice zA 512 zc) ∧ u4.cell? ⟨bx, 0, none⟩ = some (.int .i64 (zi : Nat)) ∧ u4.cell? ⟨bx, 1, none⟩ = some (.slice xA 512 xc) ∧
          (convert 43 9 (.slice zA 512 zc)).run Try.prog u4 = .ok (.string s) u4 ∧ (convert 43 9 (.slice xA 512 xc)).run Try.prog u4 = .ok (.string s) u4 :=
        ⟨(hbd.cell (p := ⟨b', k * 2, none⟩) HBL.out.2.2).trans HV0.out.1, (hbd.cell (p := ⟨b', k * 2 + 1, none⟩) HBL.out.2.2).trans HV0.out.2, blk_cell hxd 0, blk_cell hxd 1, hcz', hcx'⟩
      have HS4 := Lib.hid hS4
      clear hbd hxd hcx' hcz' hS4
      refine wp_region_held_drew (S := fun W => W.cell? ⟨b', k * 2, none⟩ = some (.int .i64 (zi : Nat)) ∧ W.cell? ⟨b', k * 2 + 1, none⟩ = some (.slice zA 512 zc) ∧ W.cell? ⟨bx, 0, none⟩ = some (.int .i64 (zi : Nat)) ∧ W.cell? ⟨bx, 1, none⟩ = some (.slice xA 512 xc) ∧
          (convert 43 9 (.slice zA 512 zc)).run Try.prog W = .ok (.string s) W ∧ (convert 43 9 (.slice xA 512 xc)).run Try.prog W = .ok (.string s) W) (by kernel_rfl) ?_ (fun hHeld => ?_)
      · (try dsimp only)
        rw [hu4]
        exact HS4.out
      rw [hu4] at hHeld ⊢
      clear hu4
      refine takeSome (i := 0) (v := ?_) (by decide +kernel) rfl (by rfl) (by decide +kernel) (by decide +kernel) (fun _ _ _ h => h) (by assumption) ?_ ?_
      rotate_left
      focus (intro w0 hSw; (try dsimp only at hSw); go_simp; (try (with_reducible rfl)); done)
      (try simp only [Act.put, List.getElem_toArray, List.getElem_cons_zero, List.setIfInBounds_toArray, List.set_cons_zero, List.set_cons_succ])
      refine takeSome (i := 1) (v := ?_) (by decide +kernel) rfl (by rfl) (by decide +kernel) (by decide +kernel) (fun _ _ _ h => h) (by assumption) ?_ ?_
      rotate_left
      focus (intro w0 hSw; (try dsimp only at hSw); go_simp; (try (with_reducible rfl)); done)
      (try simp only [Act.put, List.getElem_toArray, List.getElem_cons_zero, List.getElem_cons_succ, List.setIfInBounds_toArray, List.set_cons_zero, List.set_cons_succ])
      refine takeSome (i := 2) (v := ?_) (by decide +kernel) rfl (by rfl) (by decide +kernel) (by decide +kernel) (fun _ _ _ h => h) (by assumption) ?_ ?_
      rotate_left
      focus (intro w0 hSw; (try dsimp only at hSw); go_simp; (try (with_reducible rfl)); done)
      (try simp only [Act.put, List.getElem_toArray, List.getElem_cons_zero, List.getElem_cons_succ, List.setIfInBounds_toArray, List.set_cons_zero, List.set_cons_succ])
      refine takeSome (i := 3) (v := ?_) (by decide +kernel) rfl (by rfl) (by decide +kernel) (by decide +kernel) (fun _ _ _ h => h) (by assumption) ?_ ?_
      rotate_left
      focus (intro w0 hSw; (try dsimp only at hSw); go_simp; (try (with_reducible rfl)); done)
      (try simp only [Act.put, List.getElem_toArray, List.getElem_cons_zero, List.getElem_cons_succ, List.setIfInBounds_toArray, List.set_cons_zero, List.set_cons_succ])
      refine takeSome (i := 4) (v := ?_) (by decide +kernel) rfl (by rfl) (by decide +kernel) (by decide +kernel) (fun _ _ _ h => h) (by assumption) ?_ ?_
      rotate_left
      focus (intro w0 hSw; (try dsimp only at hSw); go_simp; (try (with_reducible rfl)); done)
      (try simp only [Act.put, List.getElem_toArray, List.getElem_cons_zero, List.getElem_cons_succ, List.setIfInBounds_toArray, List.set_cons_zero, List.set_cons_succ])
      refine takeSome (i := 5) (v := ?_) (by decide +kernel) rfl (by rfl) (by decide +kernel) (by decide +kernel) (fun _ _ _ h => h) (by assumption) ?_ ?_
      rotate_left
      focus (intro w0 hSw; (try dsimp only at hSw); go_simp; (try (with_reducible rfl)); done)
      (try simp only [Act.put, List.getElem_toArray, List.getElem_cons_zero, List.getElem_cons_succ, List.setIfInBounds_toArray, List.set_cons_zero, List.set_cons_succ])
      refine takeSome (i := 6) (v := ?_) (by decide +kernel) rfl (by rfl) (by decide +kernel) (by decide +kernel) (fun _ _ _ h => h) (by assumption) ?_ ?_
      rotate_left
      focus (intro w0 hSw; (try dsimp only at hSw); go_simp; (try (with_reducible rfl)); done)
      (try simp only [Act.put, List.getElem_toArray, List.getElem_cons_zero, List.getElem_cons_succ, List.setIfInBounds_toArray, List.set_cons_zero, List.set_cons_succ])
      refine takeSome (i := 7) (v := ?_) (by decide +kernel) rfl (by rfl) (by decide +kernel) (by decide +kernel) (fun _ _ _ h => h) (by assumption) ?_ ?_
      rotate_left
      focus (intro w0 hSw; (try dsimp only at hSw); go_simp; (try (with_reducible rfl)); done)
      (try simp only [Act.put, List.getElem_toArray, List.getElem_cons_zero, List.getElem_cons_succ, List.setIfInBounds_toArray, List.set_cons_zero, List.set_cons_succ])
      refine takeSome (i := 8) (v := ?_) (by decide +kernel) rfl (by rfl) (by decide +kernel) (by decide +kernel) (fun _ _ _ h => h) (by assumption) ?_ ?_
      rotate_left
      focus (intro w0 hSw; (try dsimp only at hSw); go_simp; (try (with_reducible rfl)); done)
      (try simp only [Act.put, List.getElem_toArray, List.getElem_cons_zero, List.getElem_cons_succ, List.setIfInBounds_toArray, List.set_cons_zero, List.set_cons_succ])
      refine takeSome (i := 9) (v := ?_) (by decide +kernel) rfl (by rfl) (by decide +kernel) (by decide +kernel) (fun _ _ _ h => h) (by assumption) ?_ ?_
      rotate_left
      focus (intro w0 hSw; (try dsimp only at hSw); go_simp; (try (with_reducible rfl)); done)
      (try simp only [Act.put, List.getElem_toArray, List.getElem_cons_zero, List.getElem_cons_succ, List.setIfInBounds_toArray, List.set_cons_zero, List.set_cons_succ])
      refine takeSome (i := 10) (v := ?_) (by decide +kernel) rfl (by rfl) (by decide +kernel) (by decide +kernel) (fun _ _ _ h => h) (by assumption) ?_ ?_
      rotate_left
      focus (intro w0 hSw; (try dsimp only at hSw); go_simp; (try (with_reducible rfl)); done)
      (try simp only [Act.put, List.getElem_toArray, List.getElem_cons_zero, List.getElem_cons_succ, List.setIfInBounds_toArray, List.set_cons_zero, List.set_cons_succ])
      refine takeSome (i := 11) (v := ?_) (by decide +kernel) rfl (by rfl) (by decide +kernel) (by decide +kernel) (fun _ _ _ h => h) (by assumption) ?_ ?_
      rotate_left
      focus (intro w0 hSw; (try dsimp only at hSw); go_simp; (try (with_reducible rfl)); done)
      (try simp only [Act.put, List.getElem_toArray, List.getElem_cons_zero, List.getElem_cons_succ, List.setIfInBounds_toArray, List.set_cons_zero, List.set_cons_succ])
      refine takeSome (i := 12) (v := ?_) (by decide +kernel) rfl (by rfl) (by decide +kernel) (by decide +kernel) (fun _ _ _ h => h) (by assumption) ?_ ?_
      rotate_left
      focus (intro w0 hSw; (try dsimp only at hSw); go_simp; (try (with_reducible rfl)); done)
      (try simp only [Act.put, List.getElem_toArray, List.getElem_cons_zero, List.getElem_cons_succ, List.setIfInBounds_toArray, List.set_cons_zero, List.set_cons_succ])
      refine takeSome (i := 13) (v := ?_) (by decide +kernel) rfl (by rfl) (by decide +kernel) (by decide +kernel) (fun _ _ _ h => h) (by assumption) ?_ ?_
      rotate_left
      focus (intro w0 hSw; (try dsimp only at hSw); go_simp; (try (with_reducible rfl)); done)
      (try simp only [Act.put, List.getElem_toArray, List.getElem_cons_zero, List.getElem_cons_succ, List.setIfInBounds_toArray, List.set_cons_zero, List.set_cons_succ])
      refine takeSome (i := 14) (v := ?_) (by decide +kernel) rfl (by rfl) (by decide +kernel) (by decide +kernel) (fun _ _ _ h => h) (by assumption) ?_ ?_
      rotate_left
      focus (intro w0 hSw; (try dsimp only at hSw); go_simp; (try (with_reducible rfl)); done)
      (try simp only [Act.put, List.getElem_toArray, List.getElem_cons_zero, List.getElem_cons_succ, List.setIfInBounds_toArray, List.set_cons_zero, List.set_cons_succ])
      refine takeSome (i := 15) (v := ?_) (by decide +kernel) rfl (by rfl) (by decide +kernel) (by decide +kernel) (fun _ _ _ h => h) (by assumption) ?_ ?_
      rotate_left
      focus (intro w0 hSw; (try dsimp only at hSw); go_simp; (try (with_reducible rfl)); done)
      (try simp only [Act.put, List.getElem_toArray, List.getElem_cons_zero, List.getElem_cons_succ, List.setIfInBounds_toArray, List.set_cons_zero, List.set_cons_succ])
      refine takeSome (i := 16) (v := ?_) (by decide +kernel) rfl (by rfl) (by decide +kernel) (by decide +kernel) (fun _ _ _ h => h) (by assumption) ?_ ?_
      rotate_left
      focus (intro w0 hSw; (try dsimp only at hSw); go_simp; (try (with_reducible rfl)); done)
      (try simp only [Act.put, List.getElem_toArray, List.getElem_cons_zero, List.getElem_cons_succ, List.setIfInBounds_toArray, List.set_cons_zero, List.set_cons_succ])
      refine takeSome (i := 17) (v := ?_) (by decide +kernel) rfl (by rfl) (by decide +kernel) (by decide +kernel) (fun _ _ _ h => h) (by assumption) ?_ ?_
      rotate_left
      focus (intro w0 hSw; (try dsimp only at hSw); go_simp; (try (with_reducible rfl)); done)
      (try simp only [Act.put, List.getElem_toArray, List.getElem_cons_zero, List.getElem_cons_succ, List.setIfInBounds_toArray, List.set_cons_zero, List.set_cons_succ])
      refine takeSome (i := 18) (v := ?_) (by decide +kernel) rfl (by rfl) (by decide +kernel) (by decide +kernel) (fun _ _ _ h => h) (by assumption) ?_ ?_
      rotate_left
      focus (intro w0 hSw; (try dsimp only at hSw); go_simp; (try (with_reducible rfl)); done)
      (try simp only [Act.put, List.getElem_toArray, List.getElem_cons_zero, List.getElem_cons_succ, List.setIfInBounds_toArray, List.set_cons_zero, List.set_cons_succ])
      refine takeSome (i := 19) (v := ?_) (by decide +kernel) rfl (by rfl) (by decide +kernel) (by decide +kernel) (fun _ _ _ h => h) (by assumption) ?_ ?_
      rotate_left
      focus (intro w0 hSw; (try dsimp only at hSw); go_simp; (try (with_reducible rfl)); done)
      (try simp only [Act.put, List.getElem_toArray, List.getElem_cons_zero, List.getElem_cons_succ, List.setIfInBounds_toArray, List.set_cons_zero, List.set_cons_succ])
      refine wpAnyH_done (by decide +kernel) ?_ _
      clear hHeld
      have hqv := HQL.out
      go_wp2_with fail
      go_roundg (q - (k + 1))
      case measure => have := HLT.out; omega
      case rel => exact ⟨k + 1, by go_num, by have := HLT.out; omega, rfl, HBD⟩
    · obtain rfl : k = q := by omega
      have hl1 : ¬ (k : Int) < (k : Int) := by omega
      have HBQ := Lib.hid HB.out
      clear HB
      go_wp2_with fail
      go_loopg [8] 12 (fun m i wr => ∃ k : Nat, i = .int .i64 k ∧ k ≤ 12 ∧ m = 12 - k ∧ Hid (Below y.heap.size y wr))
      case atStart => exact ⟨0, rfl, Nat.zero_le _, rfl, HBQ⟩
      case round =>
        obtain ⟨k, rfl, hk, rfl, HB⟩ := hrel
        have j0 : wr.cell? ⟨r, 0, none⟩ = some (.int .i64 (st.sz : Nat)) := (HB.out.cell (p := ⟨r, 0, none⟩) (blk_lt HR.out.blk)).trans KK.out.1
        have j4 : wr.cell? ⟨r, 4, none⟩ = some (.bool st.out) := (HB.out.cell (p := ⟨r, 4, none⟩) (blk_lt HR.out.blk)).trans KK.out.2.2.2
        have HEND := Lib.hid (HBY.out.trans (HB.out.mono HBY.out.size))
        have HKK := Lib.hid hk
        by_cases hs : k < st.sz
        · have hs1 : (k : Int) < (st.sz : Int) := by omega
          by_cases h12 : k < 12
          · have hs2 : (k : Int) < 12 := by omega
            by_cases hot : st.out = false
            · have ho := hot
              clear hot
              rw [ho] at j4
              have HRE := Lib.hid (show readE st (k : Int) = 0 ∧ readS st (k : Int) = nowL st.log k by
                have h1 : readE st (k : Int) = 0 := by unfold readE; rw [if_neg (by rw [ho]; decide), if_neg (show ¬ badAt st (k : Int) from fun e => by unfold badAt at e; omega)]
                exact ⟨h1, by unfold readS; rw [if_pos h1, Int.toNat_natCast]⟩)
              have HYW := Lib.hid (HY.out.grow HB.out)
              have HRD := Lib.hid (Read_any HYW.out.d (k : Int) (by unfold In64; omega))
              clear ho
              go_upto_region 14 with (go_at_call 16; refine HRD.out.mono ?_; rintro e' w5 ⟨v5, rfl, hv5⟩; have HV5 := Lib.hid hv5; clear hv5)
              rw [HRE.out.1]
              rw [HRE.out.2] at HV5
              have hbt5 := HYW.out.grow (HV5.out.1.drew)
              have hv5d : BRow wr v5 (nowL st.log k) w5.drew := HV5.out.on ((Below.refl _ w5).drew)
              obtain ⟨u5, hu5⟩ : ∃ v, w5.drew = v := ⟨_, rfl⟩
              rw [hu5] at hbt5 hv5d
              have HB5 := Lib.hid hbt5
              have HVD := Lib.hid hv5d
              have HNW := Lib.hid (Now_any HB5.out.w (by have := HN.out; omega) k)
              obtain ⟨s, hs5⟩ : ∃ s : ByteArray, Hid (s = ⟨(nowL st.log k).toArray⟩) := ⟨_, Lib.hid rfl⟩
              have hc5 := conv_row HVD.out
              rw [← hs5.out] at hc5
              have HC5 := Lib.hid hc5
              clear hbt5 hv5d hc5
              refine wp_region_held_drew (S := fun W => (convert 43 9 v5).run Try.prog W = .ok (.string s) W) (by kernel_rfl) ?_ (fun hHeld => ?_)
              · (try dsimp only)
                rw [hu5]
                exact HC5.out
              rw [hu5] at hHeld ⊢
              clear hu5
              refine takeSome (i := 0) (v := ?_) (by decide +kernel) rfl (by rfl) (by decide +kernel) (by decide +kernel) (fun _ _ _ h => h) (by assumption) ?_ ?_
              rotate_left
              focus (intro w0 hSw; (try dsimp only at hSw); go_simp; (try (with_reducible rfl)); done)
              (try simp only [Act.put, List.getElem_toArray, List.getElem_cons_zero, List.setIfInBounds_toArray, List.set_cons_zero, List.set_cons_succ])
              refine takeSome (i := 1) (v := ?_) (by decide +kernel) rfl (by rfl) (by decide +kernel) (by decide +kernel) (fun _ _ _ h => h) (by assumption) ?_ ?_
              rotate_left
              focus (intro w0 hSw; (try dsimp only at hSw); go_simp; (try (with_reducible rfl)); done)
              (try simp only [Act.put, List.getElem_toArray, List.getElem_cons_zero, List.getElem_cons_succ, List.setIfInBounds_toArray, List.set_cons_zero, List.set_cons_succ])
              refine takeSome (i := 2) (v := ?_) (by decide +kernel) rfl (by rfl) (by decide +kernel) (by decide +kernel) (fun _ _ _ h => h) (by assumption) ?_ ?_
              rotate_left
              focus (intro w0 hSw; (try dsimp only at hSw); go_simp; (try (with_reducible rfl)); done)
              (try simp only [Act.put, List.getElem_toArray, List.getElem_cons_zero, List.getElem_cons_succ, List.setIfInBounds_toArray, List.set_cons_zero, List.set_cons_succ])
              refine takeSome (i := 3) (v := ?_) (by decide +kernel) rfl (by rfl) (by decide +kernel) (by decide +kernel) (fun _ _ _ h => h) (by assumption) ?_ ?_
              rotate_left
              focus (intro w0 hSw; (try dsimp only at hSw); go_simp; (try (with_reducible rfl)); done)
              (try simp only [Act.put, List.getElem_toArray, List.getElem_cons_zero, List.getElem_cons_succ, List.setIfInBounds_toArray, List.set_cons_zero, List.set_cons_succ])
              refine takeSome (i := 4) (v := ?_) (by decide +kernel) rfl (by rfl) (by decide +kernel) (by decide +kernel) (fun _ _ _ h => h) (by assumption) ?_ ?_
              rotate_left
              focus (intro w0 hSw; (try dsimp only at hSw); go_simp; (try (with_reducible rfl)); done)
              (try simp only [Act.put, List.getElem_toArray, List.getElem_cons_zero, List.getElem_cons_succ, List.setIfInBounds_toArray, List.set_cons_zero, List.set_cons_succ])
              refine takeSome (i := 5) (v := ?_) (by decide +kernel) rfl (by rfl) (by decide +kernel) (by decide +kernel) (fun _ _ _ h => h) (by assumption) ?_ ?_
              rotate_left
              focus (intro w0 hSw; (try dsimp only at hSw); go_simp; (try (with_reducible rfl)); done)
              (try simp only [Act.put, List.getElem_toArray, List.getElem_cons_zero, List.getElem_cons_succ, List.setIfInBounds_toArray, List.set_cons_zero, List.set_cons_succ])
              refine takeSome (i := 6) (v := ?_) (by decide +kernel) rfl (by rfl) (by decide +kernel) (by decide +kernel) (fun _ _ _ h => h) (by assumption) ?_ ?_
              rotate_left
              focus (intro w0 hSw; (try dsimp only at hSw); go_simp; (try (with_reducible rfl)); done)
              (try simp only [Act.put, List.getElem_toArray, List.getElem_cons_zero, List.getElem_cons_succ, List.setIfInBounds_toArray, List.set_cons_zero, List.set_cons_succ])
              refine wpAnyH_ready (rs := [7]) (by decide +kernel) (by simp) ?_
              refine AllReadyH.cons rfl (fun K hK => ?_) AllReadyH.nil
              (try simp only [List.getElem_toArray, List.getElem_cons_zero, List.getElem_cons_succ])
              go_simp
              (go_at_call 20; refine HNW.out.mono ?_; rintro e' w6 ⟨v6, rfl, hv6⟩; have HV6 := Lib.hid hv6; have hc6 := conv_row (HVD.out.on hv6.1); rw [← hs5.out] at hc6; have hd6 := conv_row hv6; rw [← hs5.out] at hd6; have HC6 := Lib.hid hc6)
              refine hK.out _ _ ?_ (fun hHeld => ?_)
              focus ((try dsimp only); exact HC6.out; done)
              clear hK K
              (try simp only [Act.put, List.getElem_toArray, List.getElem_cons_zero, List.getElem_cons_succ, List.setIfInBounds_toArray, List.set_cons_zero, List.set_cons_succ])
              refine wpAnyH_ready (rs := [8]) (by decide +kernel) (by simp) ?_
              refine AllReadyH.cons rfl (fun K hK => ?_) AllReadyH.nil
              (try simp only [List.getElem_toArray, List.getElem_cons_zero, List.getElem_cons_succ])
              go_simp
              refine hK.out _ _ ?_ (fun hHeld => ?_)
              focus ((try dsimp only); exact HC6.out; done)
              clear hK K
              (try simp only [Act.put, List.getElem_toArray, List.getElem_cons_zero, List.getElem_cons_succ, List.setIfInBounds_toArray, List.set_cons_zero, List.set_cons_succ])
              refine takeSome (i := 9) (v := ?_) (by decide +kernel) rfl (by rfl) (by decide +kernel) (by decide +kernel) (fun _ _ _ h => h) (by assumption) ?_ ?_
              rotate_left
              focus (intro w0 hSw; (try dsimp only at hSw); go_simp; (try (with_reducible rfl)); done)
              (try simp only [Act.put, List.getElem_toArray, List.getElem_cons_zero, List.getElem_cons_succ, List.setIfInBounds_toArray, List.set_cons_zero, List.set_cons_succ])
              refine takeSome (i := 10) (v := ?_) (by decide +kernel) rfl (by rfl) (by decide +kernel) (by decide +kernel) (fun _ _ _ h => h) (by assumption) ?_ ?_
              rotate_left
              focus (intro w0 hSw; (try dsimp only at hSw); go_simp; (try (with_reducible rfl)); done)
              (try simp only [Act.put, List.getElem_toArray, List.getElem_cons_zero, List.getElem_cons_succ, List.setIfInBounds_toArray, List.set_cons_zero, List.set_cons_succ])
              refine wpAnyH_done (by decide +kernel) ?_ _
              clear hHeld
              go_wp2_with fail
              go_roundg (12 - (k + 1))
              case measure => omega
              case rel => exact ⟨k + 1, by go_num, by omega, rfl, Lib.hid (HB.out.trans ((HVD.out.1.trans (HV6.out.1.mono HVD.out.1.size)).mono HB.out.size))⟩
            · have ho : st.out = true := eq_true_of_ne_false hot
              clear hot
              rw [ho] at j4
              clear ho
              go_wp2_with fail
              go_ret
              exact ⟨rfl, HEND.out⟩
          · have hs2 : ¬ (k : Int) < 12 := by omega
            go_wp2_with fail
            go_ret
            exact ⟨rfl, HEND.out⟩
        · have hs1 : ¬ (k : Int) < (st.sz : Int) := by omega
          go_wp2_with fail
          go_ret
          exact ⟨rfl, HEND.out⟩
end Go.Proofs.Ytngfffbnofejmaa
