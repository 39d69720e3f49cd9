/- The walks of the laws FrameNumbers and FrameOpens. -/
import Derived.Test.YtdnfijhclikkfaaDoorFRefO
namespace Go.Proofs.YtdnfijhclikkfaaDoor
open Go.RowKit Go.Lib

set_option maxHeartbeats 4000000 in
set_option maxRecDepth 100000 in
theorem numbers_walk {W : World} (hE : Env W) (n k p : Int) (bn : n ≤ 9223372036854775807) (bp : p ≤ 9223372036854775807) {A : Option Addr} {c : Nat} {s : List UInt8} (hB : BytesAt W A s.length s) (hn : A = none → c = 0) (hm : s.length ≤ 140737488351232) :
    Calls Tryd.prog 4 #[.slice A s.length c, .int .i64 n, .int .i64 k, .int .i64 p] W fun e w' => e = .returned (.bool true) ∧ Below W.heap.size W w' := by
  have HE := Lib.hid hE
  have HY := Lib.hid (fun W' hb => hB.on (W' := W') hb)
  have HN := Lib.hid hn
  have HA := Lib.hid (fun W' hb => answers_any (hE.on (W' := W') hb))
  have HO := Lib.hid (fun W' hb => own_bytes (W := W') (HY.out W' hb) HN.out hm)
  have HR := Lib.hid (fun W' hb => ref_Num (W := W') (c := c) p k (HY.out W' hb) (by omega) bp)
  have HP := Lib.hid (fun W' hb => ref_PutNum (W := W') (c := c) n k (HY.out W' hb) HN.out hm bn)
  have HB0 := Lib.hid (Below.refl W.heap.size W)
  obtain ⟨q, hq⟩ : ∃ q, q = putB s n k := ⟨_, rfl⟩
  have HQ := Lib.hid hq
  obtain ⟨V, hV⟩ : ∃ V, V = nmV s p k := ⟨_, rfl⟩
  obtain ⟨E, hEE⟩ : ∃ E, E = nmE s p k := ⟨_, rfl⟩
  rw [← hV, ← hEE] at HR
  have HV := Lib.hid hV
  have HEE := Lib.hid hEE
  have HM := Lib.hid hm
  have HBN := Lib.hid bn
  have HBP := Lib.hid bp
  clear hE hB hn hq hV hEE bn bp hm
  go_enter Tryd.func4, Tryd.ntmps4
  go_wp2_with fail
  go_at_call 11
  refine (HO.out _ HB0.out).mono ?_
  rintro e' w1 ⟨v1, rfl, hR1⟩
  obtain ⟨A1, c1, rfl, hY1, -, hl1, hm1⟩ := hR1.at
  have HB1 := Lib.hid hR1.1
  have HP1 := Lib.hid (PutNum_any (c := c1) n k hY1 hR1.nil HM.out HBN.out)
  rw [← HQ.out] at HP1
  clear hR1 hY1 hl1 hm1
  go_wp2_with fail
  go_at_call 13
  refine HP1.out.mono ?_
  rintro e' w2 ⟨v2, rfl, hR2⟩
  obtain ⟨A2, c2, rfl, hY2, -, -, -⟩ := hR2.at
  have HB2 := Lib.hid (HB1.out.trans (hR2.1.mono HB1.out.size))
  have HY2 := Lib.hid hY2
  clear hR2 hY2
  go_wp2_with fail
  go_at_call 11
  refine (HO.out _ HB2.out).mono ?_
  rintro e' w3 ⟨v3, rfl, hR3⟩
  obtain ⟨A3, c3, rfl, hY3, -, hl3, hm3⟩ := hR3.at
  have HB3 := Lib.hid (HB2.out.trans (hR3.1.mono HB2.out.size))
  have HX3 := Lib.hid (HY2.out.on hR3.1)
  have HN3 := Lib.hid (Num_any (c := c3) p k hY3 hl3 (by unfold maxLen at hm3; omega) (by have := HM.out; omega) HBP.out)
  rw [← HV.out, ← HEE.out] at HN3
  clear hR3 hY3 hl3 hm3
  go_wp2_with (first
    | (go_at_call 14; (with_reducible refine HN3.out.mono ?_); rintro e' wz ⟨rfl, hwz⟩; have hwz := hwz.symm; subst hwz)
    | (go_at_call 15; (with_reducible refine (HR.out _ HB3.out).mono ?_); rintro e' wz ⟨rfl, hwz⟩; have hwz := hwz.symm; subst hwz))
  refine wp_region_held_drew (S := (fun W' => (convert 22 9 (.slice A2 q.length c2)).run Tryd.prog W' = .ok (.string ⟨q.toArray⟩) W')) (by kernel_rfl) ?_ (fun hHeld => ?_)
  · exact conv_str (HX3.out.on (below_drewF (Below.refl _ w3)))
  have HB4 := Lib.hid (below_drewF HB3.out)
  have HX4 := Lib.hid (HX3.out.on (below_drewF (Below.refl _ w3)))
  generalize (World.drew _) = w4 at HB4 HX4 hHeld ⊢
  refine wpAnyH_ready (rs := [0]) (by decide +kernel) (by simp) ?_
  refine AllReadyH.cons rfl (fun K hK => ?_) AllReadyH.nil
  (try simp only [List.getElem_toArray, List.getElem_cons_zero])
  go_simp
  go_at_call 9; (with_reducible refine (HA.out _ HB4.out).mono ?_); rintro e' w5 ⟨rfl, hb5⟩; have HB5 := Lib.hid (HB4.out.trans (hb5.mono HB4.out.size)); have HX5 := Lib.hid (HX4.out.on hb5); clear hb5
  refine hK.out _ _ ?_ (fun hHeld => ?_)
  focus ((try dsimp only); exact conv_str HX5.out; done)
  clear hK K
  (try simp only [Act.put, List.getElem_toArray, List.getElem_cons_zero, List.getElem_cons_succ, List.setIfInBounds_toArray, List.set_cons_zero, List.set_cons_succ])
  refine takeSome (i := 1) (v := ?_) (by decide +kernel) rfl (by rfl) (by decide +kernel) (by decide +kernel) (fun _ _ _ h => h) (by assumption) ?_ ?_
  rotate_left
  focus (intro w0 hSw; (try dsimp only at hSw); go_simp; (try (with_reducible rfl)); done)
  (try simp only [Act.put, List.getElem_toArray, List.getElem_cons_zero, List.getElem_cons_succ, List.setIfInBounds_toArray, List.set_cons_zero, List.set_cons_succ])
  refine takeSome (i := 2) (v := ?_) (by decide +kernel) rfl (by rfl) (by decide +kernel) (by decide +kernel) (fun _ _ _ h => h) (by assumption) ?_ ?_
  rotate_left
  focus (intro w0 hSw; (try dsimp only at hSw); go_simp; (try (with_reducible rfl)); done)
  (try simp only [Act.put, List.getElem_toArray, List.getElem_cons_zero, List.getElem_cons_succ, List.setIfInBounds_toArray, List.set_cons_zero, List.set_cons_succ])
  refine takeSome (i := 3) (v := ?_) (by decide +kernel) rfl (by rfl) (by decide +kernel) (by decide +kernel) (fun _ _ _ h => h) (by assumption) ?_ ?_
  rotate_left
  focus (intro w0 hSw; (try dsimp only at hSw); go_simp; (try (with_reducible rfl)); done)
  (try simp only [Act.put, List.getElem_toArray, List.getElem_cons_zero, List.getElem_cons_succ, List.setIfInBounds_toArray, List.set_cons_zero, List.set_cons_succ])
  refine takeSome (i := 4) (v := ?_) (by decide +kernel) rfl (by rfl) (by decide +kernel) (by decide +kernel) (fun _ _ _ h => h) (by assumption) ?_ ?_
  rotate_left
  focus (intro w0 hSw; (try dsimp only at hSw); go_simp; (try (with_reducible rfl)); done)
  (try simp only [Act.put, List.getElem_toArray, List.getElem_cons_zero, List.getElem_cons_succ, List.setIfInBounds_toArray, List.set_cons_zero, List.set_cons_succ])
  refine takeSome (i := 5) (v := ?_) (by decide +kernel) rfl (by rfl) (by decide +kernel) (by decide +kernel) (fun _ _ _ h => h) (by assumption) ?_ ?_
  rotate_left
  focus (intro w0 hSw; (try dsimp only at hSw); go_simp; (try (with_reducible rfl)); done)
  (try simp only [Act.put, List.getElem_toArray, List.getElem_cons_zero, List.getElem_cons_succ, List.setIfInBounds_toArray, List.set_cons_zero, List.set_cons_succ])
  refine takeSome (i := 6) (v := ?_) (by decide +kernel) rfl (by rfl) (by decide +kernel) (by decide +kernel) (fun _ _ _ h => h) (by assumption) ?_ ?_
  rotate_left
  focus (intro w0 hSw; (try dsimp only at hSw); go_simp; (try (with_reducible rfl)); done)
  (try simp only [Act.put, List.getElem_toArray, List.getElem_cons_zero, List.getElem_cons_succ, List.setIfInBounds_toArray, List.set_cons_zero, List.set_cons_succ])
  refine wpAnyH_ready (rs := [7]) (by decide +kernel) (by simp) ?_
  refine AllReadyH.cons rfl (fun K hK => ?_) AllReadyH.nil
  (try simp only [List.getElem_toArray, List.getElem_cons_zero, List.getElem_cons_succ])
  go_simp
  go_at_call 16; (with_reducible refine (HP.out _ HB5.out).mono ?_); rintro e' w6 ⟨v6, rfl, hR6⟩; rw [← HQ.out] at hR6; obtain ⟨A6, c6, rfl, hY6, -, -, -⟩ := hR6.at; have HB6 := Lib.hid (HB5.out.trans (hR6.1.mono HB5.out.size)); have HX6 := Lib.hid (HX5.out.on hR6.1); have hcv6 := conv_str (c := c6) hY6; clear hR6 hY6
  refine hK.out _ _ ?_ (fun hHeld => ?_)
  focus ((try dsimp only); exact conv_str HX6.out; done)
  clear hK K
  (try simp only [Act.put, List.getElem_toArray, List.getElem_cons_zero, List.getElem_cons_succ, List.setIfInBounds_toArray, List.set_cons_zero, List.set_cons_succ])
  refine wpAnyH_ready (rs := [8]) (by decide +kernel) (by simp) ?_
  refine AllReadyH.cons rfl (fun K hK => ?_) AllReadyH.nil
  (try simp only [List.getElem_toArray, List.getElem_cons_zero, List.getElem_cons_succ])
  go_simp
  refine hK.out _ _ ?_ (fun hHeld => ?_)
  focus ((try dsimp only); exact conv_str HX6.out; done)
  clear hK K
  (try simp only [Act.put, List.getElem_toArray, List.getElem_cons_zero, List.getElem_cons_succ, List.setIfInBounds_toArray, List.set_cons_zero, List.set_cons_succ])
  refine takeSome (i := 9) (v := ?_) (by decide +kernel) rfl (by rfl) (by decide +kernel) (by decide +kernel) (fun _ _ _ h => h) (by assumption) ?_ ?_
  rotate_left
  focus (intro w0 hSw; (try dsimp only at hSw); go_simp; (try (with_reducible rfl)); done)
  (try simp only [Act.put, List.getElem_toArray, List.getElem_cons_zero, List.getElem_cons_succ, List.setIfInBounds_toArray, List.set_cons_zero, List.set_cons_succ])
  refine takeSome (i := 10) (v := ?_) (by decide +kernel) rfl (by rfl) (by decide +kernel) (by decide +kernel) (fun _ _ _ h => h) (by assumption) ?_ ?_
  rotate_left
  focus (intro w0 hSw; (try dsimp only at hSw); go_simp; (try (with_reducible rfl)); done)
  (try simp only [Act.put, List.getElem_toArray, List.getElem_cons_zero, List.getElem_cons_succ, List.setIfInBounds_toArray, List.set_cons_zero, List.set_cons_succ])
  refine takeSome (i := 11) (v := ?_) (by decide +kernel) rfl (by rfl) (by decide +kernel) (by decide +kernel) (fun _ _ _ h => h) (by assumption) ?_ ?_
  rotate_left
  focus (intro w0 hSw; (try dsimp only at hSw); go_simp; (try (with_reducible rfl)); done)
  (try simp only [Act.put, List.getElem_toArray, List.getElem_cons_zero, List.getElem_cons_succ, List.setIfInBounds_toArray, List.set_cons_zero, List.set_cons_succ])
  refine takeSome (i := 12) (v := ?_) (by decide +kernel) rfl (by rfl) (by decide +kernel) (by decide +kernel) (fun _ _ _ h => h) (by assumption) ?_ ?_
  rotate_left
  focus (intro w0 hSw; (try dsimp only at hSw); go_simp; (try (with_reducible rfl)); done)
  (try simp only [Act.put, List.getElem_toArray, List.getElem_cons_zero, List.getElem_cons_succ, List.setIfInBounds_toArray, List.set_cons_zero, List.set_cons_succ])
  refine takeSome (i := 13) (v := ?_) (by decide +kernel) rfl (by rfl) (by decide +kernel) (by decide +kernel) (fun _ _ _ h => h) (by assumption) ?_ ?_
  rotate_left
  focus (intro w0 hSw; (try dsimp only at hSw); go_simp; (try (with_reducible rfl)); done)
  (try simp only [Act.put, List.getElem_toArray, List.getElem_cons_zero, List.getElem_cons_succ, List.setIfInBounds_toArray, List.set_cons_zero, List.set_cons_succ])
  refine takeSome (i := 14) (v := ?_) (by decide +kernel) rfl (by rfl) (by decide +kernel) (by decide +kernel) (fun _ _ _ h => h) (by assumption) ?_ ?_
  rotate_left
  focus (intro w0 hSw; (try dsimp only at hSw); go_simp; (try (with_reducible rfl)); done)
  (try simp only [Act.put, List.getElem_toArray, List.getElem_cons_zero, List.getElem_cons_succ, List.setIfInBounds_toArray, List.set_cons_zero, List.set_cons_succ])
  refine takeSome (i := 15) (v := ?_) (by decide +kernel) rfl (by rfl) (by decide +kernel) (by decide +kernel) (fun _ _ _ h => h) (by assumption) ?_ ?_
  rotate_left
  focus (intro w0 hSw; (try dsimp only at hSw); go_simp; (try (with_reducible rfl)); done)
  (try simp only [Act.put, List.getElem_toArray, List.getElem_cons_zero, List.getElem_cons_succ, List.setIfInBounds_toArray, List.set_cons_zero, List.set_cons_succ])
  refine takeSome (i := 16) (v := ?_) (by decide +kernel) rfl (by rfl) (by decide +kernel) (by decide +kernel) (fun _ _ _ h => h) (by assumption) ?_ ?_
  rotate_left
  focus (intro w0 hSw; (try dsimp only at hSw); go_simp; (try (with_reducible rfl)); done)
  (try simp only [Act.put, List.getElem_toArray, List.getElem_cons_zero, List.getElem_cons_succ, List.setIfInBounds_toArray, List.set_cons_zero, List.set_cons_succ])
  refine takeSome (i := 17) (v := ?_) (by decide +kernel) rfl (by rfl) (by decide +kernel) (by decide +kernel) (fun _ _ _ h => h) (by assumption) ?_ ?_
  rotate_left
  focus (intro w0 hSw; (try dsimp only at hSw); go_simp; (try (with_reducible rfl)); done)
  (try simp only [Act.put, List.getElem_toArray, List.getElem_cons_zero, List.getElem_cons_succ, List.setIfInBounds_toArray, List.set_cons_zero, List.set_cons_succ])
  refine takeSome (i := 18) (v := ?_) (by decide +kernel) rfl (by rfl) (by decide +kernel) (by decide +kernel) (fun _ _ _ h => h) (by assumption) ?_ ?_
  rotate_left
  focus (intro w0 hSw; (try dsimp only at hSw); go_simp; (try (with_reducible rfl)); done)
  (try simp only [Act.put, List.getElem_toArray, List.getElem_cons_zero, List.getElem_cons_succ, List.setIfInBounds_toArray, List.set_cons_zero, List.set_cons_succ])
  refine takeSome (i := 19) (v := ?_) (by decide +kernel) rfl (by rfl) (by decide +kernel) (by decide +kernel) (fun _ _ _ h => h) (by assumption) ?_ ?_
  rotate_left
  focus (intro w0 hSw; (try dsimp only at hSw); go_simp; (try (with_reducible rfl)); done)
  (try simp only [Act.put, List.getElem_toArray, List.getElem_cons_zero, List.getElem_cons_succ, List.setIfInBounds_toArray, List.set_cons_zero, List.set_cons_succ])
  refine takeSome (i := 20) (v := ?_) (by decide +kernel) rfl (by rfl) (by decide +kernel) (by decide +kernel) (fun _ _ _ h => h) (by assumption) ?_ ?_
  rotate_left
  focus (intro w0 hSw; (try dsimp only at hSw); go_simp; (try (with_reducible rfl)); done)
  (try simp only [Act.put, List.getElem_toArray, List.getElem_cons_zero, List.getElem_cons_succ, List.setIfInBounds_toArray, List.set_cons_zero, List.set_cons_succ])
  refine takeSome (i := 21) (v := ?_) (by decide +kernel) rfl (by rfl) (by decide +kernel) (by decide +kernel) (fun _ _ _ h => h) (by assumption) ?_ ?_
  rotate_left
  focus (intro w0 hSw; (try dsimp only at hSw); go_simp; (try (with_reducible rfl)); done)
  (try simp only [Act.put, List.getElem_toArray, List.getElem_cons_zero, List.getElem_cons_succ, List.setIfInBounds_toArray, List.set_cons_zero, List.set_cons_succ])
  refine wpAnyH_done (by decide +kernel) ?_ _
  go_wp2_with fail
  go_ret
  exact ⟨rfl, HB6.out⟩

set_option maxHeartbeats 4000000 in
theorem opens_walk {W : World} (hE : Env W) {A : Option Addr} {c : Nat} {s : List UInt8} (hB : BytesAt W A s.length s) (hn : A = none → c = 0) (hm : s.length ≤ 140737488351232) (hc : s.length ≤ c) :
    Calls Tryd.prog 6 #[.slice A s.length c] W fun e w' => e = .returned (.bool true) ∧ Below W.heap.size W w' := by
  have HE := Lib.hid hE
  have HY := Lib.hid (fun W' hb => hB.on (W' := W') hb)
  have HN := Lib.hid hn
  have HA := Lib.hid (fun W' hb => answers_any (hE.on (W' := W') hb))
  have HO := Lib.hid (own_bytes hB hn hm)
  have HR := Lib.hid (fun W' hb => ref_Open (W := W') (c := c) (HY.out W' hb) hc)
  obtain ⟨q, hq⟩ : ∃ q, q = opD s := ⟨_, rfl⟩
  have HQ := Lib.hid hq
  clear hE hB hn hq hc
  go_enter Tryd.func6, Tryd.ntmps6
  go_wp2_with fail
  go_at_call 11
  refine HO.out.mono ?_
  rintro e' w2 ⟨v2, rfl, hR2⟩
  obtain ⟨A2, c2, rfl, hY2, -, hl2, hm2⟩ := hR2.at
  have HB2 := Lib.hid hR2.1
  have HP := Lib.hid (Open_any (c := c2) (HE.out.on hR2.1) hY2 hl2 (by unfold maxLen at hm2; omega))
  clear hR2 hY2 hl2 hm2
  go_wp2_with fail
  go_at_call 19
  refine HP.out.mono ?_
  rintro e' w3 ⟨v3, rfl, hR3⟩
  rw [← HQ.out] at hR3
  obtain ⟨A3, c3, rfl, hY3, -, -, -⟩ := hR3.at
  have HB3 := Lib.hid (HB2.out.trans (hR3.1.mono HB2.out.size))
  have HY3 := Lib.hid hY3
  clear hR3 hY3
  go_wp2_with fail
  go_at_call 20
  refine (HR.out _ HB3.out).mono ?_
  rintro e' w4 ⟨v4, rfl, hR4⟩
  rw [← HQ.out] at hR4
  obtain ⟨A4, c4, rfl, hY4, -, -, -⟩ := hR4.at
  have HB4 := Lib.hid (HB3.out.trans (hR4.1.mono HB3.out.size))
  have HY4 := Lib.hid hY4
  have HZ4 := Lib.hid (HY3.out.on hR4.1)
  clear hR4 hY4
  go_wp2_with (go_at_call 9; go_must ((with_reducible refine (HA.out _ HB4.out).mono ?_); rintro e' w5 ⟨rfl, hb5⟩; have HB5 := Lib.hid (HB4.out.trans (hb5.mono HB4.out.size)); have hc1 := conv_str (c := c3) (HZ4.out.on hb5); have hc2 := conv_str (c := c4) (HY4.out.on hb5); clear hb5))
  go_ret
  exact ⟨rfl, HB5.out⟩
end Go.Proofs.YtdnfijhclikkfaaDoor
