/- Too deep; a value. -/
import Derived.Test.YtmjooghfghmngaaDoorJOba
namespace Go.Proofs.YtmjooghfghmngaaDoor
open Go.RowKit Go.Shelf Go.Lib

set_option maxHeartbeats 1000000 in
theorem within_deep {b c : Nat} {A : Option Addr} {s : List UInt8} {w : World} {k a : Int} {t : ByteArray} {p : Nat} (last : Int) (f : Value) (h : Rd w b A c s k a t p) :
    Calls Tryd.prog 58 #[.pointer (some ⟨b, 0, none⟩), .int .i64 32, .int .i64 last, f] w fun e w' => e = thrown a 12 ∧ Below w.heap.size w w' := by
  obtain ⟨c0, c1, c2, c3, c4⟩ := h.cells
  have HW := Lib.hid (fun W => wrong_any k a t 12 W)
  go_enter Tryd.func58, Tryd.ntmps58
  go_wp2_with (go_at_call 41; (with_reducible refine (HW.out _).mono ?_); rintro e' Wi ⟨rfl, hBi⟩; have HB1 := Lib.hid hBi; clear hBi)
  exact ⟨rfl, rfl, HB1.out⟩

theorem grew_below {b : Nat} {w w' : World} (h : Below w.heap.size w w') : w.grownBy w' (some b) := ⟨h.os, h.tape, h.output, h.size, fun k hk _ => h.block k hk⟩

set_option maxHeartbeats 1000000 in
theorem list_deep {b c : Nat} {A : Option Addr} {s : List UInt8} {w : World} {tk : Tk} (h : Rd w b A c s tk.k (tk.a : Nat) tk.t tk.q) :
    Calls Tryd.prog 42 #[.pointer (some ⟨b, 0, none⟩), .int .i64 32] w fun e w' => e = thrown (tk.a : Nat) 12 ∧ w.grownBy w' (some b) := by
  have HWI := Lib.hid (fun W last f (h : Rd W b A c s tk.k (tk.a : Nat) tk.t tk.q) => within_deep last f h)
  go_enter Tryd.func42, Tryd.ntmps42
  go_wp2_with fail
  have hR4 := (((h.alloc (Obj.cells #[Value.pointer (some ⟨b, 0, none⟩)] 60)).alloc (Obj.cells #[Value.int .i64 32] 3)).alloc (Obj.cells #[Value.int .i64 0, Value.string ⟨#[]⟩, Value.slice none 0 0, Value.slice none 0 0] 25)).alloc (Obj.cells #[Value.int .i64 6, Value.string ⟨#[]⟩, Value.slice none 0 0, Value.slice none 0 0] 25)
  have hG4 := grew_alloc (grew_alloc (grew_alloc (grew_alloc (World.grownBy.refl w (some b)) (Obj.cells #[Value.pointer (some ⟨b, 0, none⟩)] 60)) (Obj.cells #[Value.int .i64 32] 3)) (Obj.cells #[Value.int .i64 0, Value.string ⟨#[]⟩, Value.slice none 0 0, Value.slice none 0 0] 25)) (Obj.cells #[Value.int .i64 6, Value.string ⟨#[]⟩, Value.slice none 0 0, Value.slice none 0 0] 25)
  go_at_call 58
  refine (HWI.out _ _ _ hR4).mono ?_
  rintro e' W5 ⟨rfl, hB⟩
  exact ⟨rfl, rfl, hG4.trans (grew_below hB)⟩
set_option maxHeartbeats 1000000 in
theorem object_deep {b c : Nat} {A : Option Addr} {s : List UInt8} {w : World} {tk : Tk} (h : Rd w b A c s tk.k (tk.a : Nat) tk.t tk.q) :
    Calls Tryd.prog 43 #[.pointer (some ⟨b, 0, none⟩), .int .i64 32] w fun e w' => e = thrown (tk.a : Nat) 12 ∧ w.grownBy w' (some b) := by
  have HWI := Lib.hid (fun W last f (h : Rd W b A c s tk.k (tk.a : Nat) tk.t tk.q) => within_deep last f h)
  go_enter Tryd.func43, Tryd.ntmps43
  go_wp2_with fail
  have hR4 := (((h.alloc (Obj.cells #[Value.pointer (some ⟨b, 0, none⟩)] 60)).alloc (Obj.cells #[Value.int .i64 32] 3)).alloc (Obj.cells #[Value.int .i64 0, Value.string ⟨#[]⟩, Value.slice none 0 0, Value.slice none 0 0] 25)).alloc (Obj.cells #[Value.int .i64 7, Value.string ⟨#[]⟩, Value.slice none 0 0, Value.slice none 0 0] 25)
  have hG4 := grew_alloc (grew_alloc (grew_alloc (grew_alloc (World.grownBy.refl w (some b)) (Obj.cells #[Value.pointer (some ⟨b, 0, none⟩)] 60)) (Obj.cells #[Value.int .i64 32] 3)) (Obj.cells #[Value.int .i64 0, Value.string ⟨#[]⟩, Value.slice none 0 0, Value.slice none 0 0] 25)) (Obj.cells #[Value.int .i64 7, Value.string ⟨#[]⟩, Value.slice none 0 0, Value.slice none 0 0] 25)
  go_at_call 58
  refine (HWI.out _ _ _ hR4).mono ?_
  rintro e' W5 ⟨rfl, hB⟩
  exact ⟨rfl, rfl, hG4.trans (grew_below hB)⟩

theorem grew_bl {b : Nat} {w W W' : World} (h : w.grownBy W (some b)) (hB : Below w.heap.size W W') : w.grownBy W' (some b) :=
  ⟨hB.os.trans h.os, hB.tape.trans h.tape, hB.output.trans h.output, Nat.le_trans h.size hB.size, fun k hk hb => (hB.block k hk).trans (h.block k hk hb)⟩
/-- The end: what is answered lies in the first block of the call's own. -/
theorem value_end {b d c : Nat} {A : Option Addr} {s : List UInt8} {w W : World} {tk : Tk} {rr : RR (JV × Tk)} {a : Act} {F : Nat → Prop} {x : JV} {pk : Int} {pt : ByteArray} {A1 A2 : Option Addr} {n1 c1 n2 c2 : Nat}
    (ht : a.tmps.getD 4 undef = .pointer (some ⟨w.heap.size, 0, none⟩)) (hd : a.defers = []) (hbn : b < w.heap.size) (hA : 0 < s.length → ∀ ad, A = some ad → ad.block < w.heap.size)
    (hx : W.heap[w.heap.size]? = some (.cells #[.int .i64 0, .string ⟨#[]⟩, .slice none 0 0, .slice none 0 0] 25 (0, 0)))
    (hr : rr = .ok (x, tk)) (hR : Rd W b A c s tk.k (tk.a : Nat) tk.t tk.q) (hV : VAt W F (d + 1) ⟨pk, pt, .slice A1 n1 c1, .slice A2 n2 c2⟩ x) (hF : ∀ k, F k → w.heap.size < k ∧ k < W.heap.size) (hG : w.grownBy W (some b)) :
    bodyPost Tryd.prog Tryd.f23 (OutV b A c s d rr w) .ret a ((((W.setCell ⟨w.heap.size, 0, none⟩ (.int .i64 pk)).setCell ⟨w.heap.size, 1, none⟩ (.string pt)).setCell ⟨w.heap.size, 2, none⟩ (.slice A1 n1 c1)).setCell ⟨w.heap.size, 3, none⟩ (.slice A2 n2 c2)) := by
  have bl := ((((Below.refl w.heap.size W).setCell (p := ⟨w.heap.size, 0, none⟩) (Nat.le_refl _) (.int .i64 pk)).setCell (p := ⟨w.heap.size, 1, none⟩) (Nat.le_refl _) (.string pt)).setCell (p := ⟨w.heap.size, 2, none⟩) (Nat.le_refl _) (.slice A1 n1 c1)).setCell (p := ⟨w.heap.size, 3, none⟩) (Nat.le_refl _) (.slice A2 n2 c2)
  have hfin := blk_set (blk_set (blk_set (blk_set hx 0 (.int .i64 pk)) 1 (.string pt)) 2 (.slice A1 n1 c1)) 3 (.slice A2 n2 c2)
  have ff : ∀ k, k ≠ w.heap.size → ((((W.setCell ⟨w.heap.size, 0, none⟩ (.int .i64 pk)).setCell ⟨w.heap.size, 1, none⟩ (.string pt)).setCell ⟨w.heap.size, 2, none⟩ (.slice A1 n1 c1)).setCell ⟨w.heap.size, 3, none⟩ (.slice A2 n2 c2)).heap[k]? = W.heap[k]? := fun k hk =>
    (Below.heap_setCell _ _ _ k hk).trans ((Below.heap_setCell _ _ _ k hk).trans ((Below.heap_setCell _ _ _ k hk).trans (Below.heap_setCell _ _ _ k hk)))
  have hsz := bl.size
  refine bodyPost_ret (v := PV.val ⟨pk, pt, .slice A1 n1 c1, .slice A2 n2 c2⟩) ?_ hd (OutV.yes hr (hR.under bl hbn hA) (hV.keep (fun g hg => ⟨hg, ff g (by have := hF g hg; omega)⟩)) (fun k hk => ⟨Nat.le_of_lt (hF k hk).1, Nat.lt_of_lt_of_le (hF k hk).2 hsz⟩) (grew_bl hG bl))
  exact results_cell_row rfl _ _ w.heap.size 25 #[.int .i64 pk, .string pt, .slice A1 n1 c1, .slice A2 n2 c2] (0, 0) _ ht hfin Tryd.underlying25 rfl infoS4

set_option maxHeartbeats 2000000 in
theorem value_step {b d c : Nat} {A : Option Addr} {s : List UInt8} {w : World} {tk : Tk}
    (HL0 : tk.k = 91 → ∀ W, Rd W b A c s tk.k (tk.a : Nat) tk.t tk.q → Calls Tryd.prog 42 #[.pointer (some ⟨b, 0, none⟩), .int .i64 ((32 : Int) - (d : Int))] W (OutV b A c s d (valN s d tk) W))
    (HO0 : tk.k = 123 → ∀ W, Rd W b A c s tk.k (tk.a : Nat) tk.t tk.q → Calls Tryd.prog 43 #[.pointer (some ⟨b, 0, none⟩), .int .i64 ((32 : Int) - (d : Int))] W (OutV b A c s d (valN s d tk) W))
    (hR : Rd w b A c s tk.k (tk.a : Nat) tk.t tk.q) :
    Calls Tryd.prog 23 #[.pointer (some ⟨b, 0, none⟩), .int .i64 ((32 : Int) - (d : Int))] w (OutV b A c s d (valN s d tk) w) := by
  obtain ⟨rr, hrr⟩ : ∃ r, r = valN s d tk := ⟨_, rfl⟩
  obtain ⟨ar, har⟩ : ∃ ar, ar = (32 : Int) - (d : Int) := ⟨_, rfl⟩
  rw [← har, ← hrr] at HL0 HO0 ⊢
  have HL := Lib.hid HL0
  have HO := Lib.hid HO0
  have HRR := Lib.hid hrr
  have HN := Lib.hid (fun W (t : Tk) (hR : Rd W b A c s t.k (t.a : Nat) t.t t.q) => nextK hR)
  have HW := Lib.hid (fun W => wrong_any tk.k (tk.a : Nat) tk.t 11 W)
  have hR1 := hR.alloc (Obj.cells #[Value.int .i64 0, Value.string ⟨#[]⟩, Value.slice none 0 0, Value.slice none 0 0] 25)
  have hG1 := grew_alloc (World.grownBy.refl w (some b)) (Obj.cells #[Value.int .i64 0, Value.string ⟨#[]⟩, Value.slice none 0 0, Value.slice none 0 0] 25)
  have hx := heap_alloc_new w (Obj.cells #[Value.int .i64 0, Value.string ⟨#[]⟩, Value.slice none 0 0, Value.slice none 0 0] 25)
  have hbn := hR.lt
  have HA := Lib.hid hR.inLt
  obtain ⟨q0, q1, q2, q3, q4⟩ := hR1.cells
  clear HL0 HO0 hrr har hR
  have u0 := blk_cell hx 0
  have u1 := blk_cell hx 1
  have u2 := blk_cell hx 2
  have u3 := blk_cell hx 3
  have y0 := blk_frozen hx 0
  have y1 := blk_frozen hx 1
  by_cases h1 : tk.k = 91
  · have e1 : (tk.k == 91) = true := by rw [h1]; rfl
    go_enter Tryd.func23, Tryd.ntmps23
    go_wp2_with fail
    go_at_call 42
    refine (HL.out h1 _ hR1).mono ?_
    rintro e' W2 ⟨hG2, ⟨p, x, t2, F, hr, rfl, r2, hV, hF⟩ | ⟨a', e2, hr, rfl⟩⟩
    · have hsz := World.size_alloc w (Obj.cells #[Value.int .i64 0, Value.string ⟨#[]⟩, Value.slice none 0 0, Value.slice none 0 0] 25)
      obtain ⟨pk, pt, pkv, plv⟩ := p
      obtain ⟨A1, n1, c1, A2, n2, c2, rfl, rfl⟩ := hV.slices
      simp only [PV.val]
      have hx2 := (hG2.block w.heap.size (blk_lt hx) (by simp; omega)).trans hx
      have v0 := blk_cell hx2 0
      have v1 := blk_cell hx2 1
      have v2 := blk_cell hx2 2
      have v3 := blk_cell hx2 3
      have vf0 := blk_frozen hx2 0
      have vf1 := blk_frozen hx2 1
      have vf2 := blk_frozen hx2 2
      have vf3 := blk_frozen hx2 3
      have HR1 := Lib.hid hr
      clear hr
      go_wp2_with fail
      exact value_end rfl rfl hbn HA.out hx2 HR1.out r2 hV (fun k hk => by have := hF k hk; omega) (hG1.trans hG2)
    · exact ⟨rfl, OutV.no hr (hG1.trans hG2)⟩
  · have e1 : (tk.k == 91) = false := by rw [beq_eq_false_iff_ne]; exact h1
    by_cases h2 : tk.k = 123
    · have e2 : (tk.k == 123) = true := by rw [h2]; rfl
      go_enter Tryd.func23, Tryd.ntmps23
      go_wp2_with fail
      go_at_call 43
      refine (HO.out h2 _ hR1).mono ?_
      rintro e' W2 ⟨hG2, ⟨p, x, t2, F, hr, rfl, r2, hV, hF⟩ | ⟨a', e2, hr, rfl⟩⟩
      · have hsz := World.size_alloc w (Obj.cells #[Value.int .i64 0, Value.string ⟨#[]⟩, Value.slice none 0 0, Value.slice none 0 0] 25)
        obtain ⟨pk, pt, pkv, plv⟩ := p
        obtain ⟨A1, n1, c1, A2, n2, c2, rfl, rfl⟩ := hV.slices
        simp only [PV.val]
        have hx2 := (hG2.block w.heap.size (blk_lt hx) (by simp; omega)).trans hx
        have v0 := blk_cell hx2 0
        have v1 := blk_cell hx2 1
        have v2 := blk_cell hx2 2
        have v3 := blk_cell hx2 3
        have vf0 := blk_frozen hx2 0
        have vf1 := blk_frozen hx2 1
        have vf2 := blk_frozen hx2 2
        have vf3 := blk_frozen hx2 3
        have HR1 := Lib.hid hr
        clear hr
        go_wp2_with fail
        exact value_end rfl rfl hbn HA.out hx2 HR1.out r2 hV (fun k hk => by have := hF k hk; omega) (hG1.trans hG2)
      · exact ⟨rfl, OutV.no hr (hG1.trans hG2)⟩
    · have e2 : (tk.k == 123) = false := by rw [beq_eq_false_iff_ne]; exact h2
      have h3 := HRR.out
      unfold valN at h3
      rw [if_neg h1, if_neg h2] at h3
      have HRR := Lib.hid h3
      clear h3
      have two : (1 ≤ tk.k ∧ tk.k ≤ 5) ∨ ¬ (1 ≤ tk.k ∧ tk.k ≤ 5) := by omega
      rcases two with h5 | h5
      · rw [if_pos h5] at HRR
        have five : tk.k = 1 ∨ tk.k = 2 ∨ tk.k = 3 ∨ tk.k = 4 ∨ tk.k = 5 := by omega
        rcases five with hk | hk | hk | hk | hk
        all_goals
          obtain ⟨_, e3⟩ : ∃ b, (tk.k == 1) = b := ⟨_, rfl⟩
          obtain ⟨_, e4⟩ : ∃ b, (tk.k == 2) = b := ⟨_, rfl⟩
          obtain ⟨_, e5⟩ : ∃ b, (tk.k == 3) = b := ⟨_, rfl⟩
          obtain ⟨_, e6⟩ : ∃ b, (tk.k == 4) = b := ⟨_, rfl⟩
          obtain ⟨_, e7⟩ : ∃ b, (tk.k == 5) = b := ⟨_, rfl⟩
          have f3 := e3.symm
          have f4 := e4.symm
          have f5 := e5.symm
          have f6 := e6.symm
          have f7 := e7.symm
          rw [hk] at f3 f4 f5 f6 f7
          subst f3 f4 f5 f6 f7
          clear h1 h2 hk
          go_enter Tryd.func23, Tryd.ntmps23
          go_wp2_with fail
          refine wp_region_held_drew (S := (fun w0 => w0.cell? ⟨b, 0, none⟩ = some (.int .i64 tk.k) ∧ w0.cell? ⟨b, 2, none⟩ = some (.string tk.t))) (by kernel_rfl) ?_ (fun hHeld => ?_)
          · (try dsimp only)
            exact ⟨q0, q2⟩
          have r1 := hR1.drew
          have hx1 : (World.drew (w.alloc (Obj.cells #[Value.int .i64 0, Value.string ⟨#[]⟩, Value.slice none 0 0, Value.slice none 0 0] 25))).heap[w.heap.size]? = _ := hx
          have g1 := grew_drew hG1
          generalize (World.drew _) = W0 at r1 g1 hx1 hHeld ⊢
          refine takeSome (i := 0) (v := ?_) (by decide +kernel) rfl (by rfl) (by decide +kernel) (by decide +kernel) (fun _ _ _ h => h) (by assumption) ?_ ?_
          rotate_left
          focus (intro w0 hSw; (try dsimp only at hSw); go_simp; (try (with_reducible rfl)); done)
          (try simp only [Act.put, List.getElem_toArray, List.getElem_cons_zero, List.setIfInBounds_toArray, List.set_cons_zero, List.set_cons_succ])
          refine takeSome (i := 1) (v := ?_) (by decide +kernel) rfl (by rfl) (by decide +kernel) (by decide +kernel) (fun _ _ _ h => h) (by assumption) ?_ ?_
          rotate_left
          focus (intro w0 hSw; (try dsimp only at hSw); go_simp; (try (with_reducible rfl)); done)
          (try simp only [Act.put, List.getElem_toArray, List.getElem_cons_zero, List.getElem_cons_succ, List.setIfInBounds_toArray, List.set_cons_zero, List.set_cons_succ])
          refine takeSome (i := 2) (v := ?_) (by decide +kernel) rfl (by rfl) (by decide +kernel) (by decide +kernel) (fun _ _ _ h => h) (by assumption) ?_ ?_
          rotate_left
          focus (intro w0 hSw; (try dsimp only at hSw); go_simp; (try (with_reducible rfl)); done)
          (try simp only [Act.put, List.getElem_toArray, List.getElem_cons_zero, List.getElem_cons_succ, List.setIfInBounds_toArray, List.set_cons_zero, List.set_cons_succ])
          refine takeSome (i := 3) (v := ?_) (by decide +kernel) rfl (by rfl) (by decide +kernel) (by decide +kernel) (fun _ _ _ h => h) (by assumption) ?_ ?_
          rotate_left
          focus (intro w0 hSw; (try dsimp only at hSw); go_simp; (try (with_reducible rfl)); done)
          (try simp only [Act.put, List.getElem_toArray, List.getElem_cons_zero, List.getElem_cons_succ, List.setIfInBounds_toArray, List.set_cons_zero, List.set_cons_succ])
          refine takeSome (i := 4) (v := ?_) (by decide +kernel) rfl (by rfl) (by decide +kernel) (by decide +kernel) (fun _ _ _ h => h) (by assumption) ?_ ?_
          rotate_left
          focus (intro w0 hSw; (try dsimp only at hSw); go_simp; (try (with_reducible rfl)); done)
          (try simp only [Act.put, List.getElem_toArray, List.getElem_cons_zero, List.getElem_cons_succ, List.setIfInBounds_toArray, List.set_cons_zero, List.set_cons_succ])
          refine takeSome (i := 5) (v := ?_) (by decide +kernel) rfl (by rfl) (by decide +kernel) (by decide +kernel) (fun _ _ _ h => h) (by assumption) ?_ ?_
          rotate_left
          focus (intro w0 hSw; (try dsimp only at hSw); go_simp; (try (with_reducible rfl)); done)
          (try simp only [Act.put, List.getElem_toArray, List.getElem_cons_zero, List.getElem_cons_succ, List.setIfInBounds_toArray, List.set_cons_zero, List.set_cons_succ])
          refine takeSome (i := 6) (v := ?_) (by decide +kernel) rfl (by rfl) (by decide +kernel) (by decide +kernel) (fun _ _ _ h => h) (by assumption) ?_ ?_
          rotate_left
          focus (intro w0 hSw; (try dsimp only at hSw); go_simp; (try (with_reducible rfl)); done)
          (try simp only [Act.put, List.getElem_toArray, List.getElem_cons_zero, List.getElem_cons_succ, List.setIfInBounds_toArray, List.set_cons_zero, List.set_cons_succ])
          refine takeSome (i := 7) (v := ?_) (by decide +kernel) rfl (by rfl) (by decide +kernel) (by decide +kernel) (fun _ _ _ h => h) (by assumption) ?_ ?_
          rotate_left
          focus (intro w0 hSw; (try dsimp only at hSw); go_simp; (try (with_reducible rfl)); done)
          (try simp only [Act.put, List.getElem_toArray, List.getElem_cons_zero, List.getElem_cons_succ, List.setIfInBounds_toArray, List.set_cons_zero, List.set_cons_succ])
          refine takeSome (i := 8) (v := ?_) (by decide +kernel) rfl (by rfl) (by decide +kernel) (by decide +kernel) (fun _ _ _ h => h) (by assumption) ?_ ?_
          rotate_left
          focus (intro w0 hSw; (try dsimp only at hSw); go_simp; (try (with_reducible rfl)); done)
          (try simp only [Act.put, List.getElem_toArray, List.getElem_cons_zero, List.getElem_cons_succ, List.setIfInBounds_toArray, List.set_cons_zero, List.set_cons_succ])
          refine takeSome (i := 9) (v := ?_) (by decide +kernel) rfl (by rfl) (by decide +kernel) (by decide +kernel) (fun _ _ _ h => h) (by assumption) ?_ ?_
          rotate_left
          focus (intro w0 hSw; (try dsimp only at hSw); go_simp; (try (with_reducible rfl)); done)
          (try simp only [Act.put, List.getElem_toArray, List.getElem_cons_zero, List.getElem_cons_succ, List.setIfInBounds_toArray, List.set_cons_zero, List.set_cons_succ])
          refine takeSome (i := 10) (v := ?_) (by decide +kernel) rfl (by rfl) (by decide +kernel) (by decide +kernel) (fun _ _ _ h => h) (by assumption) ?_ ?_
          rotate_left
          focus (intro w0 hSw; (try dsimp only at hSw); go_simp; (try (with_reducible rfl)); done)
          (try simp only [Act.put, List.getElem_toArray, List.getElem_cons_zero, List.getElem_cons_succ, List.setIfInBounds_toArray, List.set_cons_zero, List.set_cons_succ])
          refine wpAnyH_ready (rs := [11]) (by decide +kernel) (by simp) ?_
          refine AllReadyH.cons rfl (fun K hK => ?_) AllReadyH.nil
          (try simp only [List.getElem_toArray, List.getElem_cons_zero, List.getElem_cons_succ])
          go_simp
          refine hK.out _ _ ?_ (fun hHeld => ?_)
          focus ((try dsimp only); exact ⟨(r1.alloc _).cells.1, (r1.alloc _).cells.2.2.1⟩; done)
          clear hK K
          (try simp only [Act.put, List.getElem_toArray, List.getElem_cons_zero, List.getElem_cons_succ, List.setIfInBounds_toArray, List.set_cons_zero, List.set_cons_succ])
          refine wpAnyH_ready (rs := [12]) (by decide +kernel) (by simp) ?_
          refine AllReadyH.cons rfl (fun K hK => ?_) AllReadyH.nil
          have bl := (Below.refl W0.heap.size W0).alloc (Nat.le_refl _) (Obj.cells #[Value.int .i64 tk.k, Value.string tk.t, Value.slice none 0 0, Value.slice none 0 0] 25)
          have hfin := heap_alloc_new W0 (Obj.cells #[Value.int .i64 tk.k, Value.string tk.t, Value.slice none 0 0, Value.slice none 0 0] 25)
          have r2 := r1.on bl
          have g2 := g1.trans (grew_below bl)
          have hn5' := blk_lt hx1
          have hx3 := (bl.block _ hn5').trans hx1
          have h35 := bl.size
          (try simp only [List.getElem_toArray, List.getElem_cons_zero, List.getElem_cons_succ])
          go_simp
          refine hK.out _ _ ?_ (fun hHeld => ?_)
          focus ((try dsimp only); exact ⟨r2.cells.1, r2.cells.2.2.1⟩; done)
          clear hK K
          (try simp only [Act.put, List.getElem_toArray, List.getElem_cons_zero, List.getElem_cons_succ, List.setIfInBounds_toArray, List.set_cons_zero, List.set_cons_succ])
          refine wpAnyH_done (by decide +kernel) ?_ _
          clear bl
          generalize (World.alloc _ _) = W3 at hfin r2 g2 hx3 h35 ⊢
          go_wp2_with fail
          go_at_call 22
          refine (HN.out _ _ r2).mono ?_
          rintro e' W4 ⟨hG4, ⟨t2, hr2, rfl, hR4⟩ | ⟨a', e2, hr2, rfl⟩⟩
          · have hv := (hG4.block W0.heap.size (blk_lt hfin) (by simp; omega)).trans hfin
            have v0 := blk_cell hv 0
            have v1 := blk_cell hv 1
            have v2 := blk_cell hv 2
            have v3 := blk_cell hv 3
            have hx4 := (hG4.block w.heap.size (Nat.lt_of_lt_of_le hn5' h35) (by simp; omega)).trans hx3
            have y0 := blk_cell hx4 0
            have y1 := blk_cell hx4 1
            have y2 := blk_cell hx4 2
            have y3 := blk_cell hx4 3
            have yf0 := blk_frozen hx4 0
            have yf1 := blk_frozen hx4 1
            have yf2 := blk_frozen hx4 2
            have yf3 := blk_frozen hx4 3
            have HR2 := Lib.hid hr2
            clear hr2
            go_wp2_with fail
            exact value_end (F := fun _ => False) (x := .mk tk.k tk.t [] []) (tk := t2) rfl rfl hbn HA.out hx4 (by rw [HRR.out, HR2.out]) hR4 ⟨rfl, rfl, ⟨none, 0, rfl, Nat.le_refl _, fun i t h => by cases h⟩, none, 0, rfl, Nat.le_refl _, fun i x h => by cases h⟩ (fun k hk => hk.elim) (g2.trans hG4)
          · exact ⟨rfl, OutV.no (by rw [HRR.out, hr2]) (g2.trans hG4)⟩
      · have e3 : (tk.k == 3) = false := by rw [beq_eq_false_iff_ne]; omega
        have e4 : (tk.k == 1) = false := by rw [beq_eq_false_iff_ne]; omega
        have e5 : (tk.k == 2) = false := by rw [beq_eq_false_iff_ne]; omega
        have e6 : (tk.k == 4) = false := by rw [beq_eq_false_iff_ne]; omega
        have e7 : (tk.k == 5) = false := by rw [beq_eq_false_iff_ne]; omega
        go_enter Tryd.func23, Tryd.ntmps23
        go_wp2_with fail
        go_at_call 41
        refine (HW.out _).mono ?_
        rintro e' W2 ⟨rfl, hB⟩
        go_wp2_with fail
        refine ⟨rfl, OutV.no (by rw [HRR.out, if_neg h5]) (hG1.trans (grew_below hB))⟩
end Go.Proofs.YtmjooghfghmngaaDoor
