/- Layer pager, the table: the first page that is free, a Flip, which may be a root. -/
import Derived.Test.YtfjiceoagenfnaaDoorPTab
set_option maxRecDepth 20000
namespace Go.Proofs.YtfjiceoagenfnaaDoor
open Go.RowKit Go.Lib Go.ChangeMaps Go.MapKept

theorem PAt.drewN {W : World} {n : Nat} {ps : PS} {gd g gs low : Nat} (h : PAt W n ps gd g gs low) (m : Nat) : PAt (W.drewN m) n ps gd g gs low := { h with blk := h.blk, st := h.st }
theorem PAt.drew {W : World} {n : Nat} {ps : PS} {gd g gs low : Nat} (h : PAt W n ps gd g gs low) : PAt W.drew n ps gd g gs low := { h with blk := h.blk, st := h.st }
theorem below_drewN' {B : Nat} {a w : World} (h : Below B a w) (n : Nat) : Below B a (w.drewN n) := ⟨h.os, h.tape, h.output, h.size, h.block⟩
theorem tb_d {W W1 : World} {g gs : Nat} (h1 : Fr (TB g gs) W W1) (m : Nat) : Fr (TB g gs) W (W1.drewN m) := ⟨⟨h1.1.os, h1.1.tape, h1.1.output, h1.1.size, h1.1.block⟩, fun k hk hn => h1.2 k hk hn⟩
def IsFirst (ts : List Nat) (f : Nat) : Prop := 2 ≤ f ∧ f ≤ ts.length ∧ (∀ i, 2 ≤ i → i < f → fre (ts.getD i 0) = false) ∧ (f < ts.length → fre (ts.getD f 0) = true)
theorem isPgB_t {i n : Nat} (h : 2 ≤ i) (h2 : i < n) : isPgB i n = true := decide_eq_true ⟨by omega, by omega⟩
theorem isPgB_f {i n : Int} (h : ¬ (2 ≤ i ∧ i < n)) : isPgB i n = false := decide_eq_false h
set_option maxHeartbeats 2000000 in
theorem firstFree_any {W : World} {n : Nat} {ps : PS} {gd g gs low : Nat} (h : PAt W n ps gd g gs low) :
    Calls Tryd.prog 29 #[.pointer (some ⟨g, 1, none⟩)] W fun e w' => ∃ f low', e = .returned (.tuple #[.int .i64 (f : Nat), .bool (isPgB f n)]) ∧ IsFirst ps.ts f ∧ Fr (TB g gs) W w' ∧ PAt w' n ps gd g gs low' := by
  have HH := Lib.hid h
  clear h
  go_enter Tryd.func29, Tryd.ntmps29
  go_wp2_with fail
  go_loopg [] (n - low) (fun m wr => ∃ l : Nat, m = n - l ∧ Hid (PAt wr n ps gd g gs l ∧ Fr (TB g gs) W wr))
  case atStart => exact ⟨low, rfl, Lib.hid ⟨HH.out, Fr.refl _ _⟩⟩
  case round =>
    obtain ⟨l, rfl, HP⟩ := hrel
    have HT := Lib.hid (fun m => hasT_any (HP.out.1.drewN m) (l : Int))
    have d1 := HP.out.1.d1
    have d3 := HP.out.1.d3
    have hl := HP.out.1.lows
    have hn := HP.out.1.n4
    have hlen := HP.out.1.len
    by_cases hlt : l < n
    · have e1 := isPgB_t hl.1 hlt
      rw [e1] at HT
      have l0 : (0 : Int) ≤ (l : Int) := by omega
      have l1 : (l : Int) < (n : Int) := by omega
      have s0 := HP.out.1.sc hlt
      have HF := Lib.hid (fun W => isFree_any W (ps.ts.getD l 0))
      cases hf : fre (ps.ts.getD l 0)
      · rw [hf] at HF
        have HFF := Lib.hid hf
        have HL := Lib.hid (And.intro hl (And.intro hlt (And.intro hn hlen)))
        generalize ps.ts.getD l 0 = c at s0 HF
        have w1 : IntKind.i64.wrap ((l : Int) + 1) = (l : Int) + 1 := wrap_in (by omega) (by omega)
        have fz := HP.out.1.fz
        clear hf hl hlt hn hlen
        go_wp2_with fail
        go_quiet (first | (go_at_call 46; refine Calls.quiet_of_same (HT.out _)) | (go_at_call 49; refine Calls.quiet_of_same (HF.out _)))
        go_wp2_with fail
        go_roundg (n - (l + 1))
        case measure => have := HL.out; omega
        case rel =>
          refine ⟨l + 1, rfl, Lib.hid ⟨?_, tb_t (tb_d HP.out.2 _) tb_g⟩⟩
          obtain ⟨⟨a1, a2, a3⟩, a4, a5, a6⟩ := HL.out
          have r := (HP.out.1.drewN nq).raw.setL (l + 1)
          have hp := HP.out.1
          exact { len := hp.len, n4 := hp.n4, few := hp.few, seq := hp.seq, root := hp.root, lows := ⟨by omega, by omega, fun j hj hj2 => by
                    by_cases e : j = l
                    · rw [e]; exact HFF.out
                    · exact a3 j hj (by omega)⟩, blk := r.blk, st := r.st }
      · rw [hf] at HF
        have HX := Lib.hid (show IsFirst ps.ts l ∧ isPgB l n = true from ⟨⟨hl.1, by omega, hl.2.2, fun _ => hf⟩, e1⟩)
        generalize ps.ts.getD l 0 = c at s0 HF
        clear hf hl hlt hn hlen e1
        go_wp2_with fail
        go_quiet (first | (go_at_call 46; refine Calls.quiet_of_same (HT.out _)) | (go_at_call 49; refine Calls.quiet_of_same (HF.out _)))
        go_wp2_with fail
        go_quiet (first | (go_at_call 46; refine (HT.out _).mono ?_; rintro e' w' ⟨rfl, rfl⟩; exact ⟨rfl, _, rfl⟩))
        go_wp2_with fail
        go_ret2
        exact ⟨l, l, by rw [HX.out.2]; rfl, HX.out.1, tb_d (tb_d HP.out.2 _) _, (HP.out.1.drewN _).drewN _⟩
    · have e1 : isPgB l n = false := isPgB_f (by omega)
      rw [e1] at HT
      have HX := Lib.hid (show IsFirst ps.ts l ∧ isPgB l n = false from ⟨⟨hl.1, by omega, hl.2.2, fun _ => by omega⟩, e1⟩)
      clear hl hlt hn hlen e1
      go_wp2_with fail
      go_quiet (first | (go_at_call 46; refine Calls.quiet_of_same (HT.out _)))
      go_wp2_with fail
      go_quiet (first | (go_at_call 46; refine (HT.out _).mono ?_; rintro e' w' ⟨rfl, rfl⟩; exact ⟨rfl, _, rfl⟩))
      go_wp2_with fail
      go_ret2
      exact ⟨l, l, by rw [HX.out.2]; rfl, HX.out.1, tb_d (tb_d HP.out.2 _) _, (HP.out.1.drewN _).drewN _⟩
set_option maxHeartbeats 2000000 in
theorem flipT_any {W : World} {n : Nat} {ps : PS} {gd g gs low : Nat} (h : PAt W n ps gd g gs low) :
    Calls Tryd.prog 37 #[.pointer (some ⟨g, 1, none⟩)] W fun e w' => e = .returned (.tuple #[]) ∧ Fr (TB g gs) W w' ∧ ∃ low', PAt w' n { ps with ts := flipL ps.ts } gd g gs low' := by
  have HH := Lib.hid h
  have hn4 := Lib.hid h.n4
  have hlen := Lib.hid h.len
  clear h
  go_enter Tryd.func37, Tryd.ntmps37
  go_wp2_with fail
  go_loopg [2] (n - 2) (fun m i wr => ∃ (k : Nat) (l : Nat), i = .int .i64 k ∧ 2 ≤ k ∧ k ≤ n ∧ m = n - k ∧ Hid (PAt wr n { ps with ts := flipTo ps.ts k } gd g gs l ∧ Fr (TB g gs) W wr))
  case atStart => exact ⟨2, low, rfl, Nat.le_refl _, by have := hn4.out; omega, rfl, Lib.hid ⟨by rw [flipTo_two]; exact HH.out, Fr.refl _ _⟩⟩
  case round =>
    obtain ⟨k, l, rfl, hk2, hk, rfl, HP⟩ := hrel
    have d1 := HP.out.1.d1
    by_cases hlt : k < n
    · have k0 : (0 : Int) ≤ (k : Int) := by omega
      have k1 : (k : Int) < (n : Int) := by omega
      have s0 := HP.out.1.sc hlt
      have HC := Lib.hid (fun W => flipped_any W _ (HP.out.1.c4 (i := k)))
      have HS := Lib.hid (set_any HP.out.1 hk2 hlt (flC_le ((flipTo ps.ts k).getD k 0)))
      have HN := Lib.hid (flipTo_next hk2 (show k < ps.ts.length by rw [hlen.out]; exact hlt))
      obtain ⟨c, hc⟩ : ∃ c, Hid ((flipTo ps.ts k).getD k 0 = c) := ⟨_, Lib.hid rfl⟩
      obtain ⟨ts, hts⟩ : ∃ t, Hid (flipTo ps.ts k = t) := ⟨_, Lib.hid rfl⟩
      rw [hts.out] at HN HS HC s0 hc HP
      rw [hc.out] at HN HS HC s0
      have HK := Lib.hid (And.intro hk2 hlt)
      have w1 : IntKind.i64.wrap ((k : Int) + 1) = ((k + 1 : Nat) : Int) := by have := hn4.out; rw [wrap_in (by omega) (by omega)]; omega
      clear hk2 hlt
      go_wp2_with (first | (go_at_call 58; refine (HC.out _).mono ?_; rintro e' w' ⟨rfl, hwz⟩; have hwz := hwz.symm; subst hwz) | (go_at_call 32; refine HS.out.mono ?_; rintro e' w' ⟨rfl, hf, l', hp⟩; have HF := Lib.hid hf; have HPP := Lib.hid hp; clear hf hp))
      go_roundg (n - (k + 1))
      case measure => have := HK.out; omega
      case rel =>
        refine ⟨k + 1, l', by go_num, by have := HK.out; omega, by have := HK.out; omega, rfl, Lib.hid ⟨?_, tb_t HP.out.2 HF.out⟩⟩
        have h2 := HN.out
        have h3 := HPP.out
        rw [← h2.1] at h2
        show PAt _ n ⟨flipTo ps.ts (k + 1), ps.seq, ps.root⟩ gd g gs l'
        rw [← h2.2]
        exact h3
    · have k1 : ¬ (k : Int) < (n : Int) := by omega
      have HK := Lib.hid (show k = n by omega)
      go_wp2_with fail
      refine bodyPost_end (results_none rfl _ _ _) rfl ?_
      refine ⟨rfl, HP.out.2, l, ?_⟩
      have h2 := HP.out.1
      rw [HK.out, ← hlen.out, flipTo_all, hlen.out] at h2
      exact h2
/-- Which may be a root. -/
def mayB (ts : List Nat) (i : Int) (n : Nat) : Bool := isPgB i n && (decide (ts.getD i.toNat 0 = 2) || decide (ts.getD i.toNat 0 = 3))
set_option maxHeartbeats 2000000 in
theorem mayBeRoot_any {W : World} {n : Nat} {ps : PS} {gd g gs low : Nat} (h : PAt W n ps gd g gs low) (i : Int) :
    Calls Tryd.prog 35 #[.pointer (some ⟨g, 1, none⟩), .int .i64 i] W fun e w' => e = .returned (.bool (mayB ps.ts i n)) ∧ w' = W := by
  have HT := Lib.hid (hasT_any h i)
  by_cases hi : 2 ≤ i ∧ i < n
  · obtain ⟨k, rfl⟩ : ∃ k : Nat, i = k := ⟨i.toNat, by omega⟩
    have e1 : isPgB k n = true := isPgB_t (by omega) (by omega)
    have hm : Hid (mayB ps.ts k n = (decide (ps.ts.getD k 0 = 2) || decide (ps.ts.getD k 0 = 3))) := Lib.hid (by unfold mayB; rw [e1, Bool.true_and]; rfl)
    rw [e1] at HT
    rw [hm.out]
    have s0 := h.sc (i := k) (by omega)
    have d1 := h.d1
    have k0 : (0 : Int) ≤ (k : Int) := by omega
    have k1 : (k : Int) < (n : Int) := hi.2
    generalize ps.ts.getD k 0 = c at *
    clear h hm e1 hi
    by_cases h2 : c = 2
    · subst h2
      go_enter Tryd.func35, Tryd.ntmps35
      go_wp2_with (go_at_call 46; refine HT.out.mono ?_; rintro e' w' ⟨rfl, hwz⟩; have hwz := hwz.symm; subst hwz)
      go_ret
      exact ⟨rfl, rfl⟩
    · by_cases h3 : c = 3
      · subst h3
        go_enter Tryd.func35, Tryd.ntmps35
        go_wp2_with (go_at_call 46; refine HT.out.mono ?_; rintro e' w' ⟨rfl, hwz⟩; have hwz := hwz.symm; subst hwz)
        go_ret
        exact ⟨rfl, rfl⟩
      · have h2' : ((c : Int) == 2) = false := by rw [beq_eq_false_iff_ne]; omega
        have h3' : ((c : Int) == 3) = false := by rw [beq_eq_false_iff_ne]; omega
        have hd : (decide (c = 2) || decide (c = 3)) = false := by rw [decide_eq_false h2, decide_eq_false h3]; rfl
        rw [hd]
        go_enter Tryd.func35, Tryd.ntmps35
        go_wp2_with (go_at_call 46; refine HT.out.mono ?_; rintro e' w' ⟨rfl, hwz⟩; have hwz := hwz.symm; subst hwz)
        go_ret
        exact ⟨rfl, rfl⟩
  · have e1 : isPgB i n = false := isPgB_f hi
    have hm : mayB ps.ts i n = false := by unfold mayB; rw [e1]; rfl
    rw [hm]
    rw [e1] at HT
    clear h hi
    go_enter Tryd.func35, Tryd.ntmps35
    go_wp2_with (go_at_call 46; refine HT.out.mono ?_; rintro e' w' ⟨rfl, hwz⟩; have hwz := hwz.symm; subst hwz)
    go_ret
    exact ⟨rfl, rfl⟩
end Go.Proofs.YtfjiceoagenfnaaDoor
