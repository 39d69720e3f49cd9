/- Layer pager: roots as sectors: what one holds, the last of a disk. -/
import Derived.Test.YtfjiceoagenfnaaDoorPTb2
set_option maxRecDepth 20000
namespace Go.Proofs.YtfjiceoagenfnaaDoor
open Go.RowKit Go.Lib Go.ChangeMaps Go.MapKept

theorem infoF : (Tryd.prog.info? 64).map (·.size) = some 2 := by kernel_rfl
theorem fits_any (W : World) (q r n : Nat) : Calls Tryd.prog 44 #[.agg #[.int .i64 (q : Nat), .int .i64 (r : Nat)], .int .i64 (n : Nat)] W fun e w' => e = .returned (.bool (fitsF n (q, r))) ∧ Below W.heap.size W w' := by
  have hB : Below W.heap.size W (W.alloc (Obj.cells #[.int .i64 (q : Nat), .int .i64 (r : Nat)] 64 (0, 0))) := (Below.refl _ W).alloc (Nat.le_refl _) _
  have HP := Lib.hid (fun W => isPage_any W r n)
  by_cases h0 : r = 0
  · have e : fitsF n (q, r) = true := decide_eq_true (.inl h0)
    have h0' : ((r : Int) == 0) = true := by rw [beq_iff_eq]; omega
    rw [e]
    clear h0 e
    go_enter Tryd.func44, Tryd.ntmps44
    go_wp2_with fail
    go_ret
    exact ⟨rfl, hB⟩
  · have e : fitsF n (q, r) = isPgB r n := by
      unfold fitsF isPgB
      by_cases h : 2 ≤ r ∧ r < n
      · rw [decide_eq_true (show r = 0 ∨ _ from .inr h), decide_eq_true (by omega)]
      · rw [decide_eq_false (by rintro (e | e); exact h0 e; exact h e), decide_eq_false (by omega)]
    have h0' : ((r : Int) == 0) = false := by rw [beq_eq_false_iff_ne]; omega
    rw [e]
    clear h0 e
    obtain ⟨bb, hbb⟩ : ∃ b, isPgB r n = b := ⟨_, rfl⟩
    rw [hbb] at HP
    rw [hbb]
    clear hbb
    go_enter Tryd.func44, Tryd.ntmps44
    go_wp2_with (go_at_call 61; refine (HP.out _).mono ?_; rintro e' w' ⟨rfl, hwz⟩; have hwz := hwz.symm; subst hwz)
    go_ret
    exact ⟨rfl, hB⟩
theorem place_any (W : World) (q r : Nat) (hq : q ≤ 2000000000) : Calls Tryd.prog 56 #[.agg #[.int .i64 (q : Nat), .int .i64 (r : Nat)]] W fun e w' => e = .returned (.int .i64 ((q % 2 : Nat) : Int)) ∧ Below W.heap.size W w' := by
  have hB : Below W.heap.size W (W.alloc (Obj.cells #[.int .i64 (q : Nat), .int .i64 (r : Nat)] 64 (0, 0))) := (Below.refl _ W).alloc (Nat.le_refl _) _
  have h1 : (q : Int).tmod 2 = ((q % 2 : Nat) : Int) := by rw [Int.tmod_eq_emod_of_nonneg (by omega)]; omega
  have h2 : IntKind.i64.wrap ((q % 2 : Nat) : Int) = ((q % 2 : Nat) : Int) := wrap_in (by omega) (by omega)
  clear hq
  go_enter Tryd.func56, Tryd.ntmps56
  go_wp2_with fail
  go_ret
  exact ⟨rfl, hB⟩
set_option maxHeartbeats 4000000 in
theorem openedFlip_any {W : World} (hE : Env W) {A : Option Addr} {c : Nat} {s : List UInt8} (hB : BytesAt W A s.length s) (hc : s.length ≤ c) (hcm : c ≤ 9223372036854775807) :
    Calls Tryd.prog 43 #[.slice A s.length c] W fun e w' => e = .returned (.agg #[.int .i64 ((opF s).1 : Nat), .int .i64 ((opF s).2 : Nat)]) ∧ Below W.heap.size W w' := by
  have hb1 : Below W.heap.size W (W.alloc (Obj.cells #[.int .i64 0, .int .i64 0] 64 (0, 0))) := (Below.refl _ W).alloc (Nat.le_refl _) _
  have hn1 := heap_alloc_new W (Obj.cells #[.int .i64 0, .int .i64 0] 64 (0, 0))
  have HO := Lib.hid (Open_any (A := A) (c := c) (hE.on hb1) (hB.on hb1) hc hcm)
  obtain ⟨n, hn⟩ : ∃ n, Hid (s.length = n) := ⟨_, Lib.hid rfl⟩
  have HN1 := Lib.hid hn1
  have HB1 := Lib.hid hb1
  have HS1 := Lib.hid (al_size W (Obj.cells #[.int .i64 0, .int .i64 0] 64 (0, 0)))
  rw [hn.out] at HO
  rw [hn.out]
  obtain ⟨fq, fr, hf⟩ : ∃ a b, Hid (opF s = (a, b)) := ⟨_, _, Lib.hid rfl⟩
  have HL : Hid ((fq, fr) = if opE s = 0 ∧ opK s = 1 ∧ (opD s).length = 11 then (numL ((opD s).take 7), numL (((opD s).drop 7).take 4)) else (0, 0)) := Lib.hid hf.out.symm
  rw [hf.out]
  dsimp only
  clear hE hB hc hcm hb1 hn1
  go_enter Tryd.func43, Tryd.ntmps43
  go_upto_region 2 with (go_at_call 39; refine HO.out.mono ?_; rintro e' w1 ⟨v1, rfl, hR1⟩; have HR1 := Lib.hid hR1; clear hR1)
  obtain ⟨A1, c1, ev, hB1, hk1, hl1, hm1⟩ := HR1.out.at
  subst ev
  have hbw := HR1.out.1
  have HBW : Hid (Below W.heap.size W w1) := Lib.hid (HB1.out.trans (hbw.mono HB1.out.size))
  have hnw := (hbw.block W.heap.size (by rw [HS1.out]; omega)).trans HN1.out
  obtain ⟨b, hb⟩ : ∃ b, W.heap.size = b := ⟨_, rfl⟩
  have HBB := Lib.hid hb
  rw [hb] at hnw ⊢
  clear hbw hb
  have c0 := blk_cell hnw 0
  have c1' := blk_cell hnw 1
  have f0 := blk_frozen hnw 0
  have f1 := blk_frozen hnw 1
  have HNW := Lib.hid hnw
  have hg0 : ∀ x y : Value, Fr (fun k => k = b) w1 ((w1.setCell ⟨b, 0, none⟩ x).setCell ⟨b, 1, none⟩ y) := fun x y => (Fr.set (F := (· = b)) rfl).trans (Fr.set (F := (· = b)) rfl) (fun _ _ h => h)
  have HG := Lib.hid (fun x y => (hg0 x y).below HBW.out (HBW.out.size) (fun k e => by have := HBB.out; omega))
  have hfin : ∀ x y : Value, ((w1.setCell ⟨b, 0, none⟩ x).setCell ⟨b, 1, none⟩ y).heap[b]? = some (.cells #[x, y] 64 (0, 0)) := fun x y => by
    have := blk_set (blk_set hnw 0 x) 1 y
    simpa using this
  have HFIN := Lib.hid hfin
  have HB1' := Lib.hid hB1
  have HL1 := Lib.hid (And.intro hl1 hm1)
  generalize opE s = e at *
  generalize opK s = K at *
  generalize opD s = d at *
  clear hnw hg0 hfin hB1 hk1 hl1 hm1 HO HR1 HN1
  by_cases he : e = 0
  · subst he
    by_cases hk : K = 1
    · subst hk
      by_cases hd : d.length = 11
      · rw [if_pos ⟨rfl, rfl, hd⟩] at HL
        have hmx : (d.length : Nat) ≤ 9223372036854775807 := by omega
        have HN1 := Lib.hid (num_at (W := w1) 0 7 0 7 rfl rfl HB1'.out HL1.out.1 (by have := HL1.out.2; unfold maxLen at this; omega) (by decide) (by decide) (by omega) (by omega))
        have HN2 := Lib.hid (num_at (W := w1) 7 4 7 4 rfl rfl HB1'.out HL1.out.1 (by have := HL1.out.2; unfold maxLen at this; omega) (by decide) (by decide) (by omega) (by omega))
        rw [hd, List.drop_zero] at HN1
        rw [hd] at HN2
        rw [hd]
        generalize numL (d.take 7) = q at *
        generalize numL ((d.drop 7).take 4) = r at *
        obtain ⟨e1, e2⟩ := Prod.mk.inj HL.out
        subst e1
        subst e2
        clear hd hmx HL
        go_wp2_with (first | (go_at_call 59; (with_reducible refine HN1.out.mono ?_); rintro e' wz ⟨rfl, hwz⟩; have hwz := hwz.symm; subst hwz) | (go_at_call 59; (with_reducible refine HN2.out.mono ?_); rintro e' wz ⟨rfl, hwz⟩; have hwz := hwz.symm; subst hwz))
        refine bodyPost_ret (v := .agg #[.int .i64 (fq : Nat), .int .i64 (fr : Nat)]) ?_ rfl ⟨rfl, HG.out _ _⟩
        exact results_cell_row rfl _ _ b 64 #[.int .i64 (fq : Nat), .int .i64 (fr : Nat)] (0, 0) _ rfl (HFIN.out _ _) Tryd.underlying64 rfl infoF
      · rw [if_neg (by rintro ⟨-, -, e⟩; exact hd e)] at HL
        obtain ⟨e1, e2⟩ := Prod.mk.inj HL.out
        subst e1
        subst e2
        have hd' : ((d.length : Int) != 11) = true := by rw [bne_iff_ne]; omega
        generalize d.length = dl at *
        clear hd HL
        go_wp2_with fail
        refine bodyPost_ret (v := .agg #[.int .i64 ((0 : Nat) : Int), .int .i64 ((0 : Nat) : Int)]) ?_ rfl ⟨rfl, HG.out _ _⟩
        exact results_cell_row rfl _ _ b 64 #[.int .i64 ((0 : Nat) : Int), .int .i64 ((0 : Nat) : Int)] (0, 0) _ rfl (HFIN.out _ _) Tryd.underlying64 rfl infoF
    · rw [if_neg (by rintro ⟨-, e, -⟩; exact hk e)] at HL
      obtain ⟨e1, e2⟩ := Prod.mk.inj HL.out
      subst e1
      subst e2
      have hk' : ((K : Int) != 1) = true := by rw [bne_iff_ne]; omega
      clear hk HL
      go_wp2_with fail
      refine bodyPost_ret (v := .agg #[.int .i64 ((0 : Nat) : Int), .int .i64 ((0 : Nat) : Int)]) ?_ rfl ⟨rfl, HG.out _ _⟩
      exact results_cell_row rfl _ _ b 64 #[.int .i64 ((0 : Nat) : Int), .int .i64 ((0 : Nat) : Int)] (0, 0) _ rfl (HFIN.out _ _) Tryd.underlying64 rfl infoF
  · rw [if_neg (by rintro ⟨e, -, -⟩; exact he e)] at HL
    obtain ⟨e1, e2⟩ := Prod.mk.inj HL.out
    subst e1
    subst e2
    have he' : (e != 0) = true := by rw [bne_iff_ne]; exact he
    clear he HL
    go_wp2_with fail
    refine bodyPost_ret (v := .agg #[.int .i64 ((0 : Nat) : Int), .int .i64 ((0 : Nat) : Int)]) ?_ rfl ⟨rfl, HG.out _ _⟩
    exact results_cell_row rfl _ _ b 64 #[.int .i64 ((0 : Nat) : Int), .int .i64 ((0 : Nat) : Int)] (0, 0) _ rfl (HFIN.out _ _) Tryd.underlying64 rfl infoF
end Go.Proofs.YtfjiceoagenfnaaDoor
