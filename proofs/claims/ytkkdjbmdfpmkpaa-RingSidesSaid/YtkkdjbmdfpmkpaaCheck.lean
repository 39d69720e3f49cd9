/- The contract of the program's call Check. -/
import Derived.Test.YtkkdjbmdfpmkpaaFitP
import Derived.Test.YtkkdjbmdfpmkpaaArea
namespace Go.Proofs.Ytkkdjbmdfpmkpaa
open Go.RowKit

theorem cmp_pos {n : Int} (h : InR n) : (cmp (hiOf n) (loOf n) 0 0 ≤ 0) ↔ n ≤ 0 := by
  rw [cmp_sgn h]
  unfold sgn
  split <;> (try split) <;> omega

set_option maxRecDepth 100000 in
set_option maxHeartbeats 1000000 in
theorem Check_any (ps : List (Int × Int)) (A : Option Addr) (cap : Nat) (hn : ps.length ≤ maxLen) (w : World) (hr : Pts w w.heap.size A ps) :
    Calls Try.prog 13 #[.slice A ps.length cap] w fun e w' => e = .returned (.int .i64 (chE ps)) ∧ Below w.heap.size w w' := by
  have HA := Lib.hid (Area_any ps A cap hn w hr)
  by_cases he : arE ps = 0
  · have hge := arE_zero.1 he
    have HP : Hid (∀ W, Below w.heap.size w W → Calls Try.prog 33 #[.slice A ps.length cap] W fun e w' => ∃ b, e = .returned (.bool b) ∧ (b = true ↔ AllFit ps) ∧ Below W.heap.size W w') :=
      Lib.hid (fun W hb => simple_any ps A cap hge.1 hge.2 W (hr.on hb))
    have h1 : arH ps = hiOf (area ps) := by unfold arH; rw [if_pos he]
    have h2 : arL ps = loOf (area ps) := by unfold arL; rw [if_pos he]
    have hR : InR (area ps) := rim_inR hge.2 hge.1 (Nat.le_refl _)
    have HSF := Lib.hid (sound_fit (ps := ps))
    have HC := Lib.hid (cmp_pos hR)
    have HS := Lib.hid (fun W => sign_any (hiOf (area ps)) (loOf (area ps)) W)
    rw [he, h1, h2] at HA
    generalize cmp (hiOf (area ps)) (loOf (area ps)) 0 0 = s at *
    by_cases hs : Sound ps
    · have hv := chE_sound he hs
      obtain ⟨ha, hf⟩ := HSF.out.1 hs
      have h3 : ¬ s ≤ 0 := fun h => by have := HC.out.1 h; omega
      have hd := decide_eq_false h3
      have HF := Lib.hid hf
      clear hf hs hge hR
      rw [hv]
      go_enter Try.func13, Try.ntmps13
      go_wp2_with (first
        | (go_at_call 9; go_must (with_reducible refine (HA.out).mono ?_; rintro e w1 ⟨rfl, hB⟩; have hB1 := hB.alloc hB.size (Obj.cells #[.int .i64 (hiOf (area ps)), .int .u64 (loOf (area ps))] 26 (0, 0)); have hN := heap_alloc_new w1 (Obj.cells #[.int .i64 (hiOf (area ps)), .int .u64 (loOf (area ps))] 26 (0, 0)); have n0 := blk_cell hN 0; have n1 := blk_cell hN 1; simp only [List.getElem?_toArray, List.getElem?_cons_zero, List.getElem?_cons_succ] at n0 n1))
        | (go_at_call 32; go_must (with_reducible refine (HS.out _).mono ?_; rintro e w2 ⟨rfl, hB2⟩; have hB3 := hB1.trans (hB2.mono hB1.size)))
        | (go_at_call 33; go_must (with_reducible refine (HP.out _ hB3).mono ?_; rintro e w3 ⟨b, rfl, hb, hB4⟩; obtain rfl : b = true := hb.2 HF.out)))
      go_ret
      exact ⟨rfl, hB3.trans (hB4.mono hB3.size)⟩
    · have hv := chE_unsound he hs
      have h3 : s ≤ 0 ∨ (¬ s ≤ 0 ∧ ¬ AllFit ps) := by
        by_cases h : s ≤ 0
        · exact .inl h
        · exact .inr ⟨h, fun hf => hs (HSF.out.2 ⟨Int.not_le.1 (fun h' => h (HC.out.2 h')), hf⟩)⟩
      clear hs hge hR
      rw [hv]
      rcases h3 with h3 | ⟨h3, h4⟩
      · have hd := decide_eq_true h3
        go_enter Try.func13, Try.ntmps13
        go_wp2_with (first
          | (go_at_call 9; go_must (with_reducible refine (HA.out).mono ?_; rintro e w1 ⟨rfl, hB⟩; have hB1 := hB.alloc hB.size (Obj.cells #[.int .i64 (hiOf (area ps)), .int .u64 (loOf (area ps))] 26 (0, 0)); have hN := heap_alloc_new w1 (Obj.cells #[.int .i64 (hiOf (area ps)), .int .u64 (loOf (area ps))] 26 (0, 0)); have n0 := blk_cell hN 0; have n1 := blk_cell hN 1; simp only [List.getElem?_toArray, List.getElem?_cons_zero, List.getElem?_cons_succ] at n0 n1))
          | (go_at_call 32; go_must (with_reducible refine (HS.out _).mono ?_; rintro e w2 ⟨rfl, hB2⟩; have hB3 := hB1.trans (hB2.mono hB1.size))))
        go_ret
        exact ⟨rfl, hB3⟩
      · have hd := decide_eq_false h3
        have HF := Lib.hid h4
        clear h4
        go_enter Try.func13, Try.ntmps13
        go_wp2_with (first
          | (go_at_call 9; go_must (with_reducible refine (HA.out).mono ?_; rintro e w1 ⟨rfl, hB⟩; have hB1 := hB.alloc hB.size (Obj.cells #[.int .i64 (hiOf (area ps)), .int .u64 (loOf (area ps))] 26 (0, 0)); have hN := heap_alloc_new w1 (Obj.cells #[.int .i64 (hiOf (area ps)), .int .u64 (loOf (area ps))] 26 (0, 0)); have n0 := blk_cell hN 0; have n1 := blk_cell hN 1; simp only [List.getElem?_toArray, List.getElem?_cons_zero, List.getElem?_cons_succ] at n0 n1))
          | (go_at_call 32; go_must (with_reducible refine (HS.out _).mono ?_; rintro e w2 ⟨rfl, hB2⟩; have hB3 := hB1.trans (hB2.mono hB1.size)))
          | (go_at_call 33; go_must (with_reducible refine (HP.out _ hB3).mono ?_; rintro e w3 ⟨b, rfl, hb, hB4⟩; obtain rfl : b = false := Bool.eq_false_iff.2 (fun h => absurd (hb.1 h) HF.out))))
        go_ret
        exact ⟨rfl, hB3.trans (hB4.mono hB3.size)⟩
  · have h1 : arH ps = 0 := by unfold arH; rw [if_neg he]
    have h2 : arL ps = 0 := by unfold arL; rw [if_neg he]
    rw [h1, h2] at HA
    rw [chE_bad he]
    generalize arE ps = a at *
    go_enter Try.func13, Try.ntmps13
    go_wp2_with (go_at_call 9; go_must (with_reducible refine (HA.out).mono ?_; rintro e w1 ⟨rfl, hB⟩))
    go_ret
    exact ⟨rfl, hB.alloc hB.size _⟩
end Go.Proofs.Ytkkdjbmdfpmkpaa
