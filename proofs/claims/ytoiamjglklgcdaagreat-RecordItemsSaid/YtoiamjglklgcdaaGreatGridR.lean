/- The document's Span: of all the cells there are, those of a window. -/
import Derived.Test.YtoiamjglklgcdaaGreatGridC
namespace Go.Proofs.YtoiamjglklgcdaaGreat
open Go.RowKit
set_option maxRecDepth 100000 in
set_option maxHeartbeats 20000000 in
theorem ref_span (L H : Int × Int) (he : wnE L H = 0) (w : World) :
  Calls Tryz.prog 43 #[.agg #[.int .i64 L.1, .int .i64 L.2, .int .i64 H.1, .int .i64 H.2]] w fun e w' => ∃ v, e = .returned v ∧ RowI w 87 2 encP v (spL L H) w' := by
 obtain ⟨hg, hl1, hl2⟩ := wnE_zero.1 he
 obtain ⟨hgL, hgH⟩ := two_good hg
 have hGL := gd_iff.1 hgL
 have hGH := gd_iff.1 hgH
 have HSP := Lib.hid (docX_sp hGL hGH hl1 hl2)
 have HC1 := Lib.hid (fun W => ref_cell L.1 ⟨hGL.1, hGL.2.1⟩ W)
 have HC2 := Lib.hid (fun W => ref_cell H.1 ⟨hGH.1, hGH.2.1⟩ W)
 have HC3 := Lib.hid (fun W => ref_cell L.2 hGL.2.2 W)
 have HC4 := Lib.hid (fun W => ref_cell H.2 hGH.2.2 W)
 obtain ⟨a1, E1⟩ : ∃ a, Hid (cdv L.1 = a) := ⟨_, Lib.hid rfl⟩
 obtain ⟨a2, E2⟩ : ∃ a, Hid (cdv H.1 = a) := ⟨_, Lib.hid rfl⟩
 obtain ⟨b1, E3⟩ : ∃ a, Hid (cdv L.2 = a) := ⟨_, Lib.hid rfl⟩
 obtain ⟨b2, E4⟩ : ∃ a, Hid (cdv H.2 = a) := ⟨_, Lib.hid rfl⟩
 rw [E1.out] at HC1
 rw [E2.out] at HC2
 rw [E3.out] at HC3
 rw [E4.out] at HC4
 clear he hg hl1 hl2 hgL hgH hGL hGH
 have HQ := (Hold.refl w).new #[.int .i64 L.1, .int .i64 L.2, .int .i64 H.1, .int .i64 H.2] 85
 go_enter Tryz.func43, Tryz.ntmps43
 go_upto_region 1 with (fail)
 generalize (World.alloc _ _) = W1 at HQ ⊢
 generalize w.heap.size = g0 at HQ
 have HQX := Lib.hid HQ
 clear HQ
 have HR0 : RowI W1 87 2 encP (.slice none 0 0) [] W1 := RowI.nil (Below.refl _ _)
 go_wp2_with fail
 go_loopg [3, 4] 9 (fun gg v s4 wr => ∃ i : Nat, i ≤ 9 ∧ gg = 9 - i ∧ s4 = .int .i64 (-4 + (i : Int)) ∧ RowI W1 87 2 encP v (docX L H i) wr)
 case atStart => exact ⟨0, by omega, rfl, by simp, HR0⟩
 case round =>
  clear HR0
  obtain ⟨i, hi, hgk, rfl, HV⟩ := hrel
  have HGK := Lib.hid hgk
  clear hgk
  by_cases hlt : i < 9
  ·have m0 : -4 ≤ -4 + (i : Int) := by omega
   have m1 : -4 + (i : Int) ≤ 4 := by omega
   have HLN : Hid ((docX L H i).length ≤ 81) := by
    unfold Hid
    have := docX_len L H i
    omega
   have HT := Lib.hid (docX_succ L H i)
   have HX1 : Hid (-4 + (i : Int) + 1 = -4 + ((i + 1 : Nat) : Int)) := by unfold Hid; omega
   generalize docX L H i = es at *
   generalize hxi : -4 + (i : Int) = xi at *
   clear hxi
   go_wp2_with fail
   go_loopg [3, 5] 9 (fun gg v s5 wr => ∃ j : Nat, j ≤ 9 ∧ gg = 9 - j ∧ s5 = .int .i64 (-4 + (j : Int)) ∧ RowI W1 87 2 encP v (es ++ docY L H xi j) wr)
   case atStart => exact ⟨0, by omega, rfl, by simp, by rw [docY, List.append_nil]; exact HV⟩
   case round =>
    clear HV
    obtain ⟨j, hj, hgk, rfl, HV⟩ := hrel
    have HGJ := Lib.hid hgk
    clear hgk
    by_cases hjt : j < 9
    ·have n0 : -4 ≤ -4 + (j : Int) := by omega
     have n1 : -4 + (j : Int) ≤ 4 := by omega
     have HLJ : Hid ((es ++ docY L H xi j).length ≤ 1000) := by
      unfold Hid
      rw [List.length_append]
      have := HLN.out
      have := docY_len L H xi j
      omega
     have HTJ : es ++ docY L H xi (j + 1) = (es ++ docY L H xi j) ++ (if inC L H xi (-4 + (j : Int)) = true then [(xi, -4 + (j : Int))] else []) := by
      rw [docY_succ, List.append_assoc]
     have HY1 : Hid (-4 + (j : Int) + 1 = -4 + ((j + 1 : Nat) : Int)) := by unfold Hid; omega
     generalize es ++ docY L H xi j = fs at *
     generalize hyj : -4 + (j : Int) = yj at *
     clear hyj
     obtain ⟨c0, c1, c2, c3⟩ := (HQX.out.on HV.1).win (.head _)
     as_aux_lemma =>
      by_cases t1 : a1 ≤ xi
      ·by_cases t2 : xi ≤ a2
       ·by_cases t3 : b1 ≤ yj
        ·by_cases t4 : yj ≤ b2
         ·have hin : inC L H xi yj = true := by unfold inC; rw [E1.out, E2.out, E3.out, E4.out, decide_eq_true t1, decide_eq_true t2, decide_eq_true t3, decide_eq_true t4]; rfl
          rw [hin, if_pos rfl] at HTJ
          have HTK := Lib.hid HTJ
          clear hin HTJ
          go_wp2_with (first
           |(go_at_call 82; go_must ((first | (with_reducible refine (HC1.out _).mono ?_) | (with_reducible refine (HC2.out _).mono ?_) | (with_reducible refine (HC3.out _).mono ?_) | (with_reducible refine (HC4.out _).mono ?_)); rintro e w' ⟨rfl, rfl⟩))
           |(at_builtin; refine append_item kindC Tryz.underlying82 HV (xi, yj) 87 rfl (by have := HLJ.out; unfold maxLen; omega) (by have := HLJ.out; omega) rfl _ _ rfl rfl _ rfl ?_; rintro v9 w9 HR9))
          go_roundg (9 - (j + 1))
          case measure => have := HGJ.out; omega
          case rel => exact ⟨j + 1, by omega, rfl, by rw [← HY1.out], by rw [HTK.out]; exact HR9⟩
         ·have hin : inC L H xi yj = false := by unfold inC; rw [E1.out, E2.out, E3.out, E4.out, decide_eq_false t4]; simp
          rw [hin, if_neg (by decide), List.append_nil] at HTJ
          have HTK := Lib.hid HTJ
          clear hin HTJ
          go_wp2_with (first
           |(go_at_call 82; go_must ((first | (with_reducible refine (HC1.out _).mono ?_) | (with_reducible refine (HC2.out _).mono ?_) | (with_reducible refine (HC3.out _).mono ?_) | (with_reducible refine (HC4.out _).mono ?_)); rintro e w' ⟨rfl, rfl⟩))
           |(at_builtin; refine append_item kindC Tryz.underlying82 HV (xi, yj) 87 rfl (by have := HLJ.out; unfold maxLen; omega) (by have := HLJ.out; omega) rfl _ _ rfl rfl _ rfl ?_; rintro v9 w9 HR9))
          go_roundg (9 - (j + 1))
          case measure => have := HGJ.out; omega
          case rel => exact ⟨j + 1, by omega, rfl, by rw [← HY1.out], by rw [HTK.out]; exact HV⟩
        ·have hin : inC L H xi yj = false := by unfold inC; rw [E1.out, E2.out, E3.out, E4.out, decide_eq_false t3]; simp
         rw [hin, if_neg (by decide), List.append_nil] at HTJ
         have HTK := Lib.hid HTJ
         clear hin HTJ
         go_wp2_with (first
          |(go_at_call 82; go_must ((first | (with_reducible refine (HC1.out _).mono ?_) | (with_reducible refine (HC2.out _).mono ?_) | (with_reducible refine (HC3.out _).mono ?_) | (with_reducible refine (HC4.out _).mono ?_)); rintro e w' ⟨rfl, rfl⟩))
          |(at_builtin; refine append_item kindC Tryz.underlying82 HV (xi, yj) 87 rfl (by have := HLJ.out; unfold maxLen; omega) (by have := HLJ.out; omega) rfl _ _ rfl rfl _ rfl ?_; rintro v9 w9 HR9))
         go_roundg (9 - (j + 1))
         case measure => have := HGJ.out; omega
         case rel => exact ⟨j + 1, by omega, rfl, by rw [← HY1.out], by rw [HTK.out]; exact HV⟩
       ·have hin : inC L H xi yj = false := by unfold inC; rw [E1.out, E2.out, E3.out, E4.out, decide_eq_false t2]; simp
        rw [hin, if_neg (by decide), List.append_nil] at HTJ
        have HTK := Lib.hid HTJ
        clear hin HTJ
        go_wp2_with (first
         |(go_at_call 82; go_must ((first | (with_reducible refine (HC1.out _).mono ?_) | (with_reducible refine (HC2.out _).mono ?_) | (with_reducible refine (HC3.out _).mono ?_) | (with_reducible refine (HC4.out _).mono ?_)); rintro e w' ⟨rfl, rfl⟩))
         |(at_builtin; refine append_item kindC Tryz.underlying82 HV (xi, yj) 87 rfl (by have := HLJ.out; unfold maxLen; omega) (by have := HLJ.out; omega) rfl _ _ rfl rfl _ rfl ?_; rintro v9 w9 HR9))
        go_roundg (9 - (j + 1))
        case measure => have := HGJ.out; omega
        case rel => exact ⟨j + 1, by omega, rfl, by rw [← HY1.out], by rw [HTK.out]; exact HV⟩
      ·have hin : inC L H xi yj = false := by unfold inC; rw [E1.out, E2.out, E3.out, E4.out, decide_eq_false t1]; simp
       rw [hin, if_neg (by decide), List.append_nil] at HTJ
       have HTK := Lib.hid HTJ
       clear hin HTJ
       go_wp2_with (first
        |(go_at_call 82; go_must ((first | (with_reducible refine (HC1.out _).mono ?_) | (with_reducible refine (HC2.out _).mono ?_) | (with_reducible refine (HC3.out _).mono ?_) | (with_reducible refine (HC4.out _).mono ?_)); rintro e w' ⟨rfl, rfl⟩))
        |(at_builtin; refine append_item kindC Tryz.underlying82 HV (xi, yj) 87 rfl (by have := HLJ.out; unfold maxLen; omega) (by have := HLJ.out; omega) rfl _ _ rfl rfl _ rfl ?_; rintro v9 w9 HR9))
       go_roundg (9 - (j + 1))
       case measure => have := HGJ.out; omega
       case rel => exact ⟨j + 1, by omega, rfl, by rw [← HY1.out], by rw [HTK.out]; exact HV⟩
    ·obtain rfl : j = 9 := by omega
     have a3 : ¬ -4 + ((9 : Nat) : Int) ≤ 4 := by decide
     rw [← HT.out] at HV
     go_wp2_with fail
     go_roundg (9 - (i + 1))
     case measure => have := HGK.out; omega
     case rel => exact ⟨i + 1, by omega, rfl, by rw [← HX1.out], HV⟩
  ·obtain rfl : i = 9 := by omega
   have a3 : ¬ -4 + ((9 : Nat) : Int) ≤ 4 := by decide
   rw [HSP.out] at HV
   have HV' := Lib.hid HV
   clear HV
   go_wp2
   go_ret
   exact ⟨_, rfl, RowI.based HV'.out HQX.out.1⟩
end Go.Proofs.YtoiamjglklgcdaaGreat
