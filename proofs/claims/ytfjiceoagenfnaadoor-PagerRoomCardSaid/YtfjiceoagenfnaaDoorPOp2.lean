/- Layer pager: what is told of pages: Use, Free. -/
import Derived.Test.YtfjiceoagenfnaaDoorPOp1
set_option maxRecDepth 20000
namespace Go.Proofs.YtfjiceoagenfnaaDoor
open Go.RowKit Go.Lib Go.ChangeMaps Go.MapKept

/-- The states behind such a call. -/
def turnL (f : Nat → Nat) (ts : List Nat) (l : List Int) : List Nat := l.foldl (fun ts i => ts.set i.toNat (f (ts.getD i.toNat 0))) ts
def turnT (f : Nat → Nat) (ts : List Nat) (l : List Int) (n : Nat) : List Nat := if fltE l n = 0 then turnL f ts l else ts
theorem turnL_push (f : Nat → Nat) (ts : List Nat) (l : List Int) (i : Int) : turnL f ts (l ++ [i]) = (turnL f ts l).set i.toNat (f ((turnL f ts l).getD i.toNat 0)) := by unfold turnL; rw [List.foldl_append]; rfl
theorem turnL_one (f : Nat → Nat) (ts : List Nat) (i : Nat) : turnL f ts [(i : Int)] = ts.set i (f (ts.getD i 0)) := by unfold turnL; simp
theorem flt_all {l : List Int} {n : Nat} (h : fltE l n = 0) : ∀ i ∈ l, ∃ k : Nat, i = k ∧ 2 ≤ k ∧ k < n := fun i hi => by
  unfold fltE at h
  split at h
  · rename_i e
    have := of_decide_eq_true (List.all_eq_true.1 e i hi)
    exact ⟨i.toNat, by omega, by omega, by omega⟩
  · cases h
theorem flt_01 (l : List Int) (n : Nat) : fltE l n = 0 ∨ fltE l n = 1 := by unfold fltE; split <;> simp

set_option maxHeartbeats 4000000 in
theorem turn_used {W : World} {T : Nat → Prop} {st : DS} {ps : PS} {gd g gs : Nat} (h : Bo W T st ps gd g gs) (ho : st.out = false) {A : Option Addr} {c : Nat} {l : List Int} (hl : IntsAt W A l) (hn : l.length ≤ 1000000) (hA : ∀ ad, A = some ad → ad.block < W.heap.size ∧ ad.block ≠ g ∧ ad.block ≠ gs) :
    Calls Tryd.prog 33 #[.pointer (some ⟨g, 0, none⟩), .func (.func 40) #[] #[], .slice A l.length c] W fun e w' => e = .returned (.int .i64 (fltE l st.sz)) ∧ BoTo W w' T st { ps with ts := turnT useC ps.ts l st.sz } gd g gs := by
  have HF := Lib.hid (faultP_any (c := c) h ho hl hn)
  have HH := Lib.hid h
  rcases flt_01 l st.sz with h0 | h1
  · have HALL := Lib.hid (flt_all h0)
    rw [h0] at HF
    rw [h0, show turnT useC ps.ts l st.sz = turnL useC ps.ts l from if_pos h0]
    obtain ⟨low, hp⟩ := h.pg
    have HP := Lib.hid hp
    have HI := Lib.hid hl
    have HN := Lib.hid hn
    have HA := Lib.hid hA
    clear h ho hl hn hA h0 hp
    go_enter Tryd.func33, Tryd.ntmps33
    go_wp2_with (go_at_call 27; refine HF.out.mono ?_; rintro e' wz ⟨rfl, hwz⟩; have hwz := hwz.symm; subst hwz)
    go_loopg [18] l.length (fun m i wr => ∃ (k : Nat) (lw : Nat), i = .int .i64 k ∧ k ≤ l.length ∧ m = l.length - k ∧ Hid (Fr (TB g gs) W wr ∧ PAt wr st.sz { ps with ts := turnL useC ps.ts (l.take k) } gd g gs lw))
    case atStart => exact ⟨0, low, rfl, Nat.zero_le _, rfl, Lib.hid ⟨Fr.refl _ _, HP.out⟩⟩
    case round =>
      obtain ⟨k, lw, rfl, hk, rfl, HR⟩ := hrel
      by_cases hlt : k < l.length
      · have k1 : (k : Int) < (l.length : Int) := by omega
        have k0 : (0 : Int) ≤ (k : Int) := by omega
        obtain ⟨b, o, rfl, hc⟩ := HI.out (by omega)
        obtain ⟨hA1, hA2, hA3⟩ := HA.out _ rfl
        have hck := (HR.out.1.cell (p := ⟨b, o + k, none⟩) hA1 (by unfold TB; rintro (e | e); exact hA2 e; exact hA3 e)).trans (hc k hlt)
        obtain ⟨j, ej, hj2, hj⟩ := HALL.out _ (List.getElem_mem hlt)
        rw [ej] at hck
        have HNX : Hid (turnL useC ps.ts (l.take (k + 1)) = (turnL useC ps.ts (l.take k)).set j (useC ((turnL useC ps.ts (l.take k)).getD j 0))) := Lib.hid (by
          rw [List.take_add_one, List.getElem?_eq_getElem hlt]
          show turnL _ _ (l.take k ++ [l[k]]) = _
          rw [turnL_push, ej, Int.toNat_natCast])
        obtain ⟨ts, hts⟩ : ∃ t, Hid (turnL useC ps.ts (l.take k) = t) := ⟨_, Lib.hid rfl⟩
        rw [hts.out] at HNX HR
        have HS := Lib.hid (fun m => set_any (HR.out.2.drewN m) hj2 hj (c := useC (ts.getD j 0)) ((fun _ => useC_le _) (HR.out.2.c4 (i := j))))
        have HC := Lib.hid (fun W => used_any W _ (HR.out.2.c4 (i := j)))
        have HD := Lib.hid (And.intro HR.out.2.d1 (HR.out.2.sc hj))
        obtain ⟨cc, hcc⟩ : ∃ t, Hid (ts.getD j 0 = t) := ⟨_, Lib.hid rfl⟩
        rw [show ({ ps with ts := ts } : PS).ts = ts from rfl, hcc.out] at HS HC HD
        rw [hcc.out] at HNX
        have j0 : (0 : Int) ≤ (j : Int) := by omega
        have j1 : (j : Int) < (st.sz : Int) := by omega
        have w1 : IntKind.i64.wrap ((k : Int) + 1) = ((k + 1 : Nat) : Int) := by have := HN.out; rw [wrap_in (by omega) (by omega)]; omega
        have HL := Lib.hid (And.intro hlt hk)
        have HFR := Lib.hid HR.out.1
        have HJ := Lib.hid hj
        clear hc hA1 hA2 hA3 hlt hk hj2 hj ej
        go_upto_region 7 with (fail)
        have hcs : wr.drew.cell? ⟨gs, j, none⟩ = some (.int .u8 (cc : Nat)) := HD.out.2
        refine wp_region_held_drew (S := fun W => W.cell? ⟨g, 1, none⟩ = some (.slice (some ⟨gs, 0, none⟩) st.sz st.sz)) (by kernel_rfl) ?_ (fun hHeld => ?_)
        · (try dsimp only)
          exact HD.out.1
        refine takeSome (i := 0) (v := ?_) (by decide +kernel) rfl (by rfl) (by decide +kernel) (by decide +kernel) (fun _ _ _ h => h) (by assumption) ?_ ?_
        rotate_left
        focus (intro w0 hSw; (try dsimp only at hSw); go_simp; (try (with_reducible rfl)); done)
        (try simp only [Act.put, List.getElem_toArray, List.getElem_cons_zero, List.setIfInBounds_toArray, List.set_cons_zero, List.set_cons_succ])
        refine takeSome (i := 1) (v := ?_) (by decide +kernel) rfl (by rfl) (by decide +kernel) (by decide +kernel) (fun _ _ _ h => h) (by assumption) ?_ ?_
        rotate_left
        focus (intro w0 hSw; (try dsimp only at hSw); go_simp; (try (with_reducible rfl)); done)
        (try simp only [Act.put, List.getElem_toArray, List.getElem_cons_zero, List.getElem_cons_succ, List.setIfInBounds_toArray, List.set_cons_zero, List.set_cons_succ])
        refine takeSome (i := 2) (v := ?_) (by decide +kernel) rfl (by rfl) (by decide +kernel) (by decide +kernel) (fun _ _ _ h => h) (by assumption) ?_ ?_
        rotate_left
        focus (intro w0 hSw; (try dsimp only at hSw); go_simp; (try (with_reducible rfl)); done)
        (try simp only [Act.put, List.getElem_toArray, List.getElem_cons_zero, List.getElem_cons_succ, List.setIfInBounds_toArray, List.set_cons_zero, List.set_cons_succ])
        refine takeSome (i := 3) (v := ?_) (by decide +kernel) rfl (by rfl) (by decide +kernel) (by decide +kernel) (fun _ _ _ h => h) (by assumption) ?_ ?_
        rotate_left
        focus (intro w0 hSw; (try dsimp only at hSw); go_simp; (try (with_reducible rfl)); done)
        (try simp only [Act.put, List.getElem_toArray, List.getElem_cons_zero, List.getElem_cons_succ, List.setIfInBounds_toArray, List.set_cons_zero, List.set_cons_succ])
        refine takeSome (i := 4) (v := ?_) (by decide +kernel) rfl (by rfl) (by decide +kernel) (by decide +kernel) (fun _ _ _ h => h) (by assumption) ?_ ?_
        rotate_left
        focus (intro w0 hSw; (try dsimp only at hSw); go_simp; (try (with_reducible rfl)); done)
        (try simp only [Act.put, List.getElem_toArray, List.getElem_cons_zero, List.getElem_cons_succ, List.setIfInBounds_toArray, List.set_cons_zero, List.set_cons_succ])
        refine takeSome (i := 5) (v := ?_) (by decide +kernel) rfl (by rfl) (by decide +kernel) (by decide +kernel) (fun _ _ _ h => h) (by assumption) ?_ ?_
        rotate_left
        focus (intro w0 hSw; (try dsimp only at hSw); go_simp; (try (with_reducible rfl)); done)
        (try simp only [Act.put, List.getElem_toArray, List.getElem_cons_zero, List.getElem_cons_succ, List.setIfInBounds_toArray, List.set_cons_zero, List.set_cons_succ])
        refine takeSome (i := 6) (v := ?_) (by decide +kernel) rfl (by rfl) (by decide +kernel) (by decide +kernel) (fun _ _ _ h => h) (by assumption) ?_ ?_
        rotate_left
        focus (intro w0 hSw; (try dsimp only at hSw); go_simp; (try (with_reducible rfl)); done)
        (try simp only [Act.put, List.getElem_toArray, List.getElem_cons_zero, List.getElem_cons_succ, List.setIfInBounds_toArray, List.set_cons_zero, List.set_cons_succ])
        refine takeSome (i := 7) (v := ?_) (by decide +kernel) rfl (by rfl) (by decide +kernel) (by decide +kernel) (fun _ _ _ h => h) (by assumption) ?_ ?_
        rotate_left
        focus (intro w0 hSw; (try dsimp only at hSw); go_simp; (try (with_reducible rfl)); done)
        (try simp only [Act.put, List.getElem_toArray, List.getElem_cons_zero, List.getElem_cons_succ, List.setIfInBounds_toArray, List.set_cons_zero, List.set_cons_succ])
        refine takeSome (i := 8) (v := ?_) (by decide +kernel) rfl (by rfl) (by decide +kernel) (by decide +kernel) (fun _ _ _ h => h) (by assumption) ?_ ?_
        rotate_left
        focus (intro w0 hSw; (try dsimp only at hSw); go_simp; (try (with_reducible rfl)); done)
        (try simp only [Act.put, List.getElem_toArray, List.getElem_cons_zero, List.getElem_cons_succ, List.setIfInBounds_toArray, List.set_cons_zero, List.set_cons_succ])
        refine takeSome (i := 9) (v := ?_) (by decide +kernel) rfl (by rfl) (by decide +kernel) (by decide +kernel) (fun _ _ _ h => h) (by assumption) ?_ ?_
        rotate_left
        focus (intro w0 hSw; (try dsimp only at hSw); go_simp; (try (with_reducible rfl)); done)
        (try simp only [Act.put, List.getElem_toArray, List.getElem_cons_zero, List.getElem_cons_succ, List.setIfInBounds_toArray, List.set_cons_zero, List.set_cons_succ])
        refine takeSome (i := 10) (v := ?_) (by decide +kernel) rfl (by rfl) (by decide +kernel) (by decide +kernel) (fun _ _ _ h => h) (by assumption) ?_ ?_
        rotate_left
        focus (intro w0 hSw; (try dsimp only at hSw); go_simp; (try (with_reducible rfl)); done)
        (try simp only [Act.put, List.getElem_toArray, List.getElem_cons_zero, List.getElem_cons_succ, List.setIfInBounds_toArray, List.set_cons_zero, List.set_cons_succ])
        refine takeSome (i := 11) (v := ?_) (by decide +kernel) rfl (by rfl) (by decide +kernel) (by decide +kernel) (fun _ _ _ h => h) (by assumption) ?_ ?_
        rotate_left
        focus (intro w0 hSw; (try dsimp only at hSw); go_simp; (try (with_reducible rfl)); done)
        (try simp only [Act.put, List.getElem_toArray, List.getElem_cons_zero, List.getElem_cons_succ, List.setIfInBounds_toArray, List.set_cons_zero, List.set_cons_succ])
        refine wpAnyH_ready (rs := [12]) (by decide +kernel) (by simp) ?_
        refine AllReadyH.cons rfl (fun K hK => ?_) AllReadyH.nil
        (try simp only [List.getElem_toArray, List.getElem_cons_zero, List.getElem_cons_succ])
        go_simp
        refine hK.out _ _ ?_ (fun hHeld => ?_)
        focus ((try dsimp only); exact hHeld; done)
        clear hK K
        (try simp only [Act.put, List.getElem_toArray, List.getElem_cons_zero, List.getElem_cons_succ, List.setIfInBounds_toArray, List.set_cons_zero, List.set_cons_succ])
        refine wpAnyH_ready (rs := [13]) (by decide +kernel) (by simp) ?_
        refine AllReadyH.cons rfl (fun K hK => ?_) AllReadyH.nil
        (try simp only [List.getElem_toArray, List.getElem_cons_zero, List.getElem_cons_succ])
        go_simp
        (go_at_call 40; refine (HC.out _).mono ?_; rintro e' wz ⟨rfl, hwz⟩; have hwz := hwz.symm; subst hwz)
        refine hK.out _ _ ?_ (fun hHeld => ?_)
        focus ((try dsimp only); exact hHeld; done)
        clear hK K
        (try simp only [Act.put, List.getElem_toArray, List.getElem_cons_zero, List.getElem_cons_succ, List.setIfInBounds_toArray, List.set_cons_zero, List.set_cons_succ])
        refine wpAnyH_ready (rs := [14]) (by decide +kernel) (by simp) ?_
        refine AllReadyH.cons rfl (fun K hK => ?_) AllReadyH.nil
        (try simp only [List.getElem_toArray, List.getElem_cons_zero, List.getElem_cons_succ])
        go_simp
        (go_at_call 32; refine (HS.out 1).mono ?_; rintro e' w2 ⟨rfl, hf2, lw2, hp2⟩; have HF2 := Lib.hid hf2; have HP2 := Lib.hid hp2; clear hf2 hp2)
        refine hK.out _ _ ?_ (fun hHeld => ?_)
        focus ((try dsimp only); exact HP2.out.d1; done)
        clear hK K
        (try simp only [Act.put, List.getElem_toArray, List.getElem_cons_zero, List.getElem_cons_succ, List.setIfInBounds_toArray, List.set_cons_zero, List.set_cons_succ])
        refine wpAnyH_done (by decide +kernel) ?_ _
        clear hHeld hcs
        go_wp2_with fail
        go_roundg (l.length - (k + 1))
        case measure => have := HL.out; omega
        case rel =>
          refine ⟨k + 1, lw2, by go_num, by have := HL.out; omega, rfl, Lib.hid ⟨tb_t (tb_d HFR.out 1) HF2.out, ?_⟩⟩
          rw [HNX.out]
          exact HP2.out
      · have k1 : ¬ (k : Int) < (l.length : Int) := by omega
        have HR2 := HR.out
        rw [List.take_of_length_le (by omega)] at HR2
        have HR3 := Lib.hid HR2
        clear HR2 HR hk
        go_wp2_with fail
        go_ret
        exact ⟨rfl, HH.out.tab HR3.out.1 HR3.out.2⟩
  · rw [h1] at HF
    have ht : turnT useC ps.ts l st.sz = ps.ts := if_neg (fun e => by rw [h1] at e; cases e)
    rw [h1, ht]
    clear h ho hl hn hA h1
    go_enter Tryd.func33, Tryd.ntmps33
    go_wp2_with (go_at_call 27; refine HF.out.mono ?_; rintro e' wz ⟨rfl, hwz⟩; have hwz := hwz.symm; subst hwz)
    go_ret
    exact ⟨rfl, BoTo.refl HH.out⟩
set_option maxHeartbeats 1000000 in
theorem Use_any {W : World} {T : Nat → Prop} {st : DS} {ps : PS} {gd g gs : Nat} (h : Bo W T st ps gd g gs) (ho : st.out = false) {A : Option Addr} {c : Nat} {l : List Int} (hl : IntsAt W A l) (hn : l.length ≤ 1000000) (hA : ∀ ad, A = some ad → ad.block < W.heap.size ∧ ad.block ≠ g ∧ ad.block ≠ gs) :
    Calls Tryd.prog 18 #[.pointer (some ⟨g, 0, none⟩), .slice A l.length c] W fun e w' => e = .returned (.int .i64 (fltE l st.sz)) ∧ BoTo W w' T st { ps with ts := turnT useC ps.ts l st.sz } gd g gs := by
  have HT := Lib.hid (turn_used (c := c) h ho hl hn hA)
  clear h ho hl hn hA
  generalize fltE l st.sz = ee at *
  generalize l.length = ll at *
  go_enter Tryd.func18, Tryd.ntmps18
  go_wp2_with (go_at_call 33; refine HT.out.mono ?_; rintro e' wz ⟨rfl, hb⟩; have HB := Lib.hid hb; clear hb)
  go_ret
  exact ⟨rfl, HB.out⟩
theorem Use_nil (W : World) (A : Option Addr) (n c : Nat) : Calls Tryd.prog 18 #[.pointer none, .slice A n c] W fun e w' => e = .returned (.int .i64 1) ∧ w' = W := by
  have HF := Lib.hid (fault_none W A n c)
  have HT : Hid (Calls Tryd.prog 33 #[.pointer none, .func (.func 40) #[] #[], .slice A n c] W fun e w' => e = .returned (.int .i64 1) ∧ w' = W) := Lib.hid (by
    go_enter Tryd.func33, Tryd.ntmps33
    go_wp2_with (go_at_call 27; refine HF.out.mono ?_; rintro e' wz ⟨rfl, hwz⟩; have hwz := hwz.symm; subst hwz)
    go_ret
    exact ⟨rfl, rfl⟩)
  go_enter Tryd.func18, Tryd.ntmps18
  go_wp2_with (go_at_call 33; refine HT.out.mono ?_; rintro e' wz ⟨rfl, hwz⟩; have hwz := hwz.symm; subst hwz)
  go_ret
  exact ⟨rfl, rfl⟩

set_option maxHeartbeats 4000000 in
theorem turn_rel {W : World} {T : Nat → Prop} {st : DS} {ps : PS} {gd g gs : Nat} (h : Bo W T st ps gd g gs) (ho : st.out = false) {A : Option Addr} {c : Nat} {l : List Int} (hl : IntsAt W A l) (hn : l.length ≤ 1000000) (hA : ∀ ad, A = some ad → ad.block < W.heap.size ∧ ad.block ≠ g ∧ ad.block ≠ gs) :
    Calls Tryd.prog 33 #[.pointer (some ⟨g, 0, none⟩), .func (.func 34) #[] #[], .slice A l.length c] W fun e w' => e = .returned (.int .i64 (fltE l st.sz)) ∧ BoTo W w' T st { ps with ts := turnT relC ps.ts l st.sz } gd g gs := by
  have HF := Lib.hid (faultP_any (c := c) h ho hl hn)
  have HH := Lib.hid h
  rcases flt_01 l st.sz with h0 | h1
  · have HALL := Lib.hid (flt_all h0)
    rw [h0] at HF
    rw [h0, show turnT relC ps.ts l st.sz = turnL relC ps.ts l from if_pos h0]
    obtain ⟨low, hp⟩ := h.pg
    have HP := Lib.hid hp
    have HI := Lib.hid hl
    have HN := Lib.hid hn
    have HA := Lib.hid hA
    clear h ho hl hn hA h0 hp
    go_enter Tryd.func33, Tryd.ntmps33
    go_wp2_with (go_at_call 27; refine HF.out.mono ?_; rintro e' wz ⟨rfl, hwz⟩; have hwz := hwz.symm; subst hwz)
    go_loopg [18] l.length (fun m i wr => ∃ (k : Nat) (lw : Nat), i = .int .i64 k ∧ k ≤ l.length ∧ m = l.length - k ∧ Hid (Fr (TB g gs) W wr ∧ PAt wr st.sz { ps with ts := turnL relC ps.ts (l.take k) } gd g gs lw))
    case atStart => exact ⟨0, low, rfl, Nat.zero_le _, rfl, Lib.hid ⟨Fr.refl _ _, HP.out⟩⟩
    case round =>
      obtain ⟨k, lw, rfl, hk, rfl, HR⟩ := hrel
      by_cases hlt : k < l.length
      · have k1 : (k : Int) < (l.length : Int) := by omega
        have k0 : (0 : Int) ≤ (k : Int) := by omega
        obtain ⟨b, o, rfl, hc⟩ := HI.out (by omega)
        obtain ⟨hA1, hA2, hA3⟩ := HA.out _ rfl
        have hck := (HR.out.1.cell (p := ⟨b, o + k, none⟩) hA1 (by unfold TB; rintro (e | e); exact hA2 e; exact hA3 e)).trans (hc k hlt)
        obtain ⟨j, ej, hj2, hj⟩ := HALL.out _ (List.getElem_mem hlt)
        rw [ej] at hck
        have HNX : Hid (turnL relC ps.ts (l.take (k + 1)) = (turnL relC ps.ts (l.take k)).set j (relC ((turnL relC ps.ts (l.take k)).getD j 0))) := Lib.hid (by
          rw [List.take_add_one, List.getElem?_eq_getElem hlt]
          show turnL _ _ (l.take k ++ [l[k]]) = _
          rw [turnL_push, ej, Int.toNat_natCast])
        obtain ⟨ts, hts⟩ : ∃ t, Hid (turnL relC ps.ts (l.take k) = t) := ⟨_, Lib.hid rfl⟩
        rw [hts.out] at HNX HR
        have HS := Lib.hid (fun m => set_any (HR.out.2.drewN m) hj2 hj (c := relC (ts.getD j 0)) (relC_le (HR.out.2.c4 (i := j))))
        have HC := Lib.hid (fun W => released_any W _ (HR.out.2.c4 (i := j)))
        have HD := Lib.hid (And.intro HR.out.2.d1 (HR.out.2.sc hj))
        obtain ⟨cc, hcc⟩ : ∃ t, Hid (ts.getD j 0 = t) := ⟨_, Lib.hid rfl⟩
        rw [show ({ ps with ts := ts } : PS).ts = ts from rfl, hcc.out] at HS HC HD
        rw [hcc.out] at HNX
        have j0 : (0 : Int) ≤ (j : Int) := by omega
        have j1 : (j : Int) < (st.sz : Int) := by omega
        have w1 : IntKind.i64.wrap ((k : Int) + 1) = ((k + 1 : Nat) : Int) := by have := HN.out; rw [wrap_in (by omega) (by omega)]; omega
        have HL := Lib.hid (And.intro hlt hk)
        have HFR := Lib.hid HR.out.1
        have HJ := Lib.hid hj
        clear hc hA1 hA2 hA3 hlt hk hj2 hj ej
        go_upto_region 7 with (fail)
        have hcs : wr.drew.cell? ⟨gs, j, none⟩ = some (.int .u8 (cc : Nat)) := HD.out.2
        refine wp_region_held_drew (S := fun W => W.cell? ⟨g, 1, none⟩ = some (.slice (some ⟨gs, 0, none⟩) st.sz st.sz)) (by kernel_rfl) ?_ (fun hHeld => ?_)
        · (try dsimp only)
          exact HD.out.1
        refine takeSome (i := 0) (v := ?_) (by decide +kernel) rfl (by rfl) (by decide +kernel) (by decide +kernel) (fun _ _ _ h => h) (by assumption) ?_ ?_
        rotate_left
        focus (intro w0 hSw; (try dsimp only at hSw); go_simp; (try (with_reducible rfl)); done)
        (try simp only [Act.put, List.getElem_toArray, List.getElem_cons_zero, List.setIfInBounds_toArray, List.set_cons_zero, List.set_cons_succ])
        refine takeSome (i := 1) (v := ?_) (by decide +kernel) rfl (by rfl) (by decide +kernel) (by decide +kernel) (fun _ _ _ h => h) (by assumption) ?_ ?_
        rotate_left
        focus (intro w0 hSw; (try dsimp only at hSw); go_simp; (try (with_reducible rfl)); done)
        (try simp only [Act.put, List.getElem_toArray, List.getElem_cons_zero, List.getElem_cons_succ, List.setIfInBounds_toArray, List.set_cons_zero, List.set_cons_succ])
        refine takeSome (i := 2) (v := ?_) (by decide +kernel) rfl (by rfl) (by decide +kernel) (by decide +kernel) (fun _ _ _ h => h) (by assumption) ?_ ?_
        rotate_left
        focus (intro w0 hSw; (try dsimp only at hSw); go_simp; (try (with_reducible rfl)); done)
        (try simp only [Act.put, List.getElem_toArray, List.getElem_cons_zero, List.getElem_cons_succ, List.setIfInBounds_toArray, List.set_cons_zero, List.set_cons_succ])
        refine takeSome (i := 3) (v := ?_) (by decide +kernel) rfl (by rfl) (by decide +kernel) (by decide +kernel) (fun _ _ _ h => h) (by assumption) ?_ ?_
        rotate_left
        focus (intro w0 hSw; (try dsimp only at hSw); go_simp; (try (with_reducible rfl)); done)
        (try simp only [Act.put, List.getElem_toArray, List.getElem_cons_zero, List.getElem_cons_succ, List.setIfInBounds_toArray, List.set_cons_zero, List.set_cons_succ])
        refine takeSome (i := 4) (v := ?_) (by decide +kernel) rfl (by rfl) (by decide +kernel) (by decide +kernel) (fun _ _ _ h => h) (by assumption) ?_ ?_
        rotate_left
        focus (intro w0 hSw; (try dsimp only at hSw); go_simp; (try (with_reducible rfl)); done)
        (try simp only [Act.put, List.getElem_toArray, List.getElem_cons_zero, List.getElem_cons_succ, List.setIfInBounds_toArray, List.set_cons_zero, List.set_cons_succ])
        refine takeSome (i := 5) (v := ?_) (by decide +kernel) rfl (by rfl) (by decide +kernel) (by decide +kernel) (fun _ _ _ h => h) (by assumption) ?_ ?_
        rotate_left
        focus (intro w0 hSw; (try dsimp only at hSw); go_simp; (try (with_reducible rfl)); done)
        (try simp only [Act.put, List.getElem_toArray, List.getElem_cons_zero, List.getElem_cons_succ, List.setIfInBounds_toArray, List.set_cons_zero, List.set_cons_succ])
        refine takeSome (i := 6) (v := ?_) (by decide +kernel) rfl (by rfl) (by decide +kernel) (by decide +kernel) (fun _ _ _ h => h) (by assumption) ?_ ?_
        rotate_left
        focus (intro w0 hSw; (try dsimp only at hSw); go_simp; (try (with_reducible rfl)); done)
        (try simp only [Act.put, List.getElem_toArray, List.getElem_cons_zero, List.getElem_cons_succ, List.setIfInBounds_toArray, List.set_cons_zero, List.set_cons_succ])
        refine takeSome (i := 7) (v := ?_) (by decide +kernel) rfl (by rfl) (by decide +kernel) (by decide +kernel) (fun _ _ _ h => h) (by assumption) ?_ ?_
        rotate_left
        focus (intro w0 hSw; (try dsimp only at hSw); go_simp; (try (with_reducible rfl)); done)
        (try simp only [Act.put, List.getElem_toArray, List.getElem_cons_zero, List.getElem_cons_succ, List.setIfInBounds_toArray, List.set_cons_zero, List.set_cons_succ])
        refine takeSome (i := 8) (v := ?_) (by decide +kernel) rfl (by rfl) (by decide +kernel) (by decide +kernel) (fun _ _ _ h => h) (by assumption) ?_ ?_
        rotate_left
        focus (intro w0 hSw; (try dsimp only at hSw); go_simp; (try (with_reducible rfl)); done)
        (try simp only [Act.put, List.getElem_toArray, List.getElem_cons_zero, List.getElem_cons_succ, List.setIfInBounds_toArray, List.set_cons_zero, List.set_cons_succ])
        refine takeSome (i := 9) (v := ?_) (by decide +kernel) rfl (by rfl) (by decide +kernel) (by decide +kernel) (fun _ _ _ h => h) (by assumption) ?_ ?_
        rotate_left
        focus (intro w0 hSw; (try dsimp only at hSw); go_simp; (try (with_reducible rfl)); done)
        (try simp only [Act.put, List.getElem_toArray, List.getElem_cons_zero, List.getElem_cons_succ, List.setIfInBounds_toArray, List.set_cons_zero, List.set_cons_succ])
        refine takeSome (i := 10) (v := ?_) (by decide +kernel) rfl (by rfl) (by decide +kernel) (by decide +kernel) (fun _ _ _ h => h) (by assumption) ?_ ?_
        rotate_left
        focus (intro w0 hSw; (try dsimp only at hSw); go_simp; (try (with_reducible rfl)); done)
        (try simp only [Act.put, List.getElem_toArray, List.getElem_cons_zero, List.getElem_cons_succ, List.setIfInBounds_toArray, List.set_cons_zero, List.set_cons_succ])
        refine takeSome (i := 11) (v := ?_) (by decide +kernel) rfl (by rfl) (by decide +kernel) (by decide +kernel) (fun _ _ _ h => h) (by assumption) ?_ ?_
        rotate_left
        focus (intro w0 hSw; (try dsimp only at hSw); go_simp; (try (with_reducible rfl)); done)
        (try simp only [Act.put, List.getElem_toArray, List.getElem_cons_zero, List.getElem_cons_succ, List.setIfInBounds_toArray, List.set_cons_zero, List.set_cons_succ])
        refine wpAnyH_ready (rs := [12]) (by decide +kernel) (by simp) ?_
        refine AllReadyH.cons rfl (fun K hK => ?_) AllReadyH.nil
        (try simp only [List.getElem_toArray, List.getElem_cons_zero, List.getElem_cons_succ])
        go_simp
        refine hK.out _ _ ?_ (fun hHeld => ?_)
        focus ((try dsimp only); exact hHeld; done)
        clear hK K
        (try simp only [Act.put, List.getElem_toArray, List.getElem_cons_zero, List.getElem_cons_succ, List.setIfInBounds_toArray, List.set_cons_zero, List.set_cons_succ])
        refine wpAnyH_ready (rs := [13]) (by decide +kernel) (by simp) ?_
        refine AllReadyH.cons rfl (fun K hK => ?_) AllReadyH.nil
        (try simp only [List.getElem_toArray, List.getElem_cons_zero, List.getElem_cons_succ])
        go_simp
        (go_at_call 34; refine (HC.out _).mono ?_; rintro e' wz ⟨rfl, hwz⟩; have hwz := hwz.symm; subst hwz)
        refine hK.out _ _ ?_ (fun hHeld => ?_)
        focus ((try dsimp only); exact hHeld; done)
        clear hK K
        (try simp only [Act.put, List.getElem_toArray, List.getElem_cons_zero, List.getElem_cons_succ, List.setIfInBounds_toArray, List.set_cons_zero, List.set_cons_succ])
        refine wpAnyH_ready (rs := [14]) (by decide +kernel) (by simp) ?_
        refine AllReadyH.cons rfl (fun K hK => ?_) AllReadyH.nil
        (try simp only [List.getElem_toArray, List.getElem_cons_zero, List.getElem_cons_succ])
        go_simp
        (go_at_call 32; refine (HS.out 1).mono ?_; rintro e' w2 ⟨rfl, hf2, lw2, hp2⟩; have HF2 := Lib.hid hf2; have HP2 := Lib.hid hp2; clear hf2 hp2)
        refine hK.out _ _ ?_ (fun hHeld => ?_)
        focus ((try dsimp only); exact HP2.out.d1; done)
        clear hK K
        (try simp only [Act.put, List.getElem_toArray, List.getElem_cons_zero, List.getElem_cons_succ, List.setIfInBounds_toArray, List.set_cons_zero, List.set_cons_succ])
        refine wpAnyH_done (by decide +kernel) ?_ _
        clear hHeld hcs
        go_wp2_with fail
        go_roundg (l.length - (k + 1))
        case measure => have := HL.out; omega
        case rel =>
          refine ⟨k + 1, lw2, by go_num, by have := HL.out; omega, rfl, Lib.hid ⟨tb_t (tb_d HFR.out 1) HF2.out, ?_⟩⟩
          rw [HNX.out]
          exact HP2.out
      · have k1 : ¬ (k : Int) < (l.length : Int) := by omega
        have HR2 := HR.out
        rw [List.take_of_length_le (by omega)] at HR2
        have HR3 := Lib.hid HR2
        clear HR2 HR hk
        go_wp2_with fail
        go_ret
        exact ⟨rfl, HH.out.tab HR3.out.1 HR3.out.2⟩
  · rw [h1] at HF
    have ht : turnT relC ps.ts l st.sz = ps.ts := if_neg (fun e => by rw [h1] at e; cases e)
    rw [h1, ht]
    clear h ho hl hn hA h1
    go_enter Tryd.func33, Tryd.ntmps33
    go_wp2_with (go_at_call 27; refine HF.out.mono ?_; rintro e' wz ⟨rfl, hwz⟩; have hwz := hwz.symm; subst hwz)
    go_ret
    exact ⟨rfl, BoTo.refl HH.out⟩
set_option maxHeartbeats 1000000 in
theorem Free_any {W : World} {T : Nat → Prop} {st : DS} {ps : PS} {gd g gs : Nat} (h : Bo W T st ps gd g gs) (ho : st.out = false) {A : Option Addr} {c : Nat} {l : List Int} (hl : IntsAt W A l) (hn : l.length ≤ 1000000) (hA : ∀ ad, A = some ad → ad.block < W.heap.size ∧ ad.block ≠ g ∧ ad.block ≠ gs) :
    Calls Tryd.prog 13 #[.pointer (some ⟨g, 0, none⟩), .slice A l.length c] W fun e w' => e = .returned (.int .i64 (fltE l st.sz)) ∧ BoTo W w' T st { ps with ts := turnT relC ps.ts l st.sz } gd g gs := by
  have HT := Lib.hid (turn_rel (c := c) h ho hl hn hA)
  clear h ho hl hn hA
  generalize fltE l st.sz = ee at *
  generalize l.length = ll at *
  go_enter Tryd.func13, Tryd.ntmps13
  go_wp2_with (go_at_call 33; refine HT.out.mono ?_; rintro e' wz ⟨rfl, hb⟩; have HB := Lib.hid hb; clear hb)
  go_ret
  exact ⟨rfl, HB.out⟩
theorem Free_nil (W : World) (A : Option Addr) (n c : Nat) : Calls Tryd.prog 13 #[.pointer none, .slice A n c] W fun e w' => e = .returned (.int .i64 1) ∧ w' = W := by
  have HF := Lib.hid (fault_none W A n c)
  have HT : Hid (Calls Tryd.prog 33 #[.pointer none, .func (.func 34) #[] #[], .slice A n c] W fun e w' => e = .returned (.int .i64 1) ∧ w' = W) := Lib.hid (by
    go_enter Tryd.func33, Tryd.ntmps33
    go_wp2_with (go_at_call 27; refine HF.out.mono ?_; rintro e' wz ⟨rfl, hwz⟩; have hwz := hwz.symm; subst hwz)
    go_ret
    exact ⟨rfl, rfl⟩)
  go_enter Tryd.func13, Tryd.ntmps13
  go_wp2_with (go_at_call 33; refine HT.out.mono ?_; rintro e' wz ⟨rfl, hwz⟩; have hwz := hwz.symm; subst hwz)
  go_ret
  exact ⟨rfl, rfl⟩
end Go.Proofs.YtfjiceoagenfnaaDoor
