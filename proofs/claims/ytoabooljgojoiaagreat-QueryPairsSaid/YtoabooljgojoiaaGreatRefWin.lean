/- The document's own answers on windows: WindowOK, Has, Cuts, Meets. -/
import Derived.Test.YtoabooljgojoiaaGreatWinB
import Derived.Test.YtoabooljgojoiaaGreatPlane
import Derived.Test.YtoabooljgojoiaaGreatRefSide
import Derived.Test.YtoabooljgojoiaaGreatRefCheck
namespace Go.Proofs.YtoabooljgojoiaaGreat
open Go.RowKit

set_option maxRecDepth 100000 in
set_option maxHeartbeats 2000000 in
theorem ref_has (L H p : Int × Int) (w : World) :
  Calls Tryz.prog 72 #[.agg #[.int .i64 L.1, .int .i64 L.2, .int .i64 H.1, .int .i64 H.2], .agg #[.int .i64 p.1, .int .i64 p.2]] w fun e w' => e = .returned (.bool (hasB L H p)) ∧ Below w.heap.size w w' := by
 by_cases h1 : L.1 ≤ p.1
 ·by_cases h2 : p.1 ≤ H.1
  ·by_cases h3 : L.2 ≤ p.2
   ·by_cases h4 : p.2 ≤ H.2
    ·have HG : Hid (hasB L H p = true) := by unfold Hid hasB; simp [h1, h2, h3, h4]
     go_enter Tryz.func72, Tryz.ntmps72
     go_wp2
     go_ret
     rw [HG.out]
     exact ⟨rfl, by go_grown⟩
    ·have HG : Hid (hasB L H p = false) := by unfold Hid hasB; simp [h4]
     go_enter Tryz.func72, Tryz.ntmps72
     go_wp2
     go_ret
     rw [HG.out]
     exact ⟨rfl, by go_grown⟩
   ·have HG : Hid (hasB L H p = false) := by unfold Hid hasB; simp [h3]
    go_enter Tryz.func72, Tryz.ntmps72
    go_wp2
    go_ret
    rw [HG.out]
    exact ⟨rfl, by go_grown⟩
  ·have HG : Hid (hasB L H p = false) := by unfold Hid hasB; simp [h2]
   go_enter Tryz.func72, Tryz.ntmps72
   go_wp2
   go_ret
   rw [HG.out]
   exact ⟨rfl, by go_grown⟩
 ·have HG : Hid (hasB L H p = false) := by unfold Hid hasB; simp [h1]
  go_enter Tryz.func72, Tryz.ntmps72
  go_wp2
  go_ret
  rw [HG.out]
  exact ⟨rfl, by go_grown⟩

set_option maxRecDepth 100000 in
set_option maxHeartbeats 2000000 in
theorem ref_windowOK (L H : Int × Int) (w : World) :
  Calls Tryz.prog 15 #[.agg #[.int .i64 L.1, .int .i64 L.2, .int .i64 H.1, .int .i64 H.2]] w fun e w' => e = .returned (.int .i64 (wnE L H)) ∧ Below w.heap.size w w' := by
 have HQ := (Hold.refl w).new #[.int .i64 L.1, .int .i64 L.2, .int .i64 H.1, .int .i64 H.2] 43
 have HE : Hid (wnE L H = if gdL [L, H] = true then (if H.1 < L.1 ∨ H.2 < L.2 then 1 else 0) else 3) := rfl
 go_enter Tryz.func15, Tryz.ntmps15
 go_upto_region 1 with (fail)
 generalize (World.alloc _ _) = W1 at HQ ⊢
 obtain ⟨g0, hg0⟩ : ∃ g, w.heap.size = g := ⟨_, rfl⟩
 rw [hg0] at HQ ⊢
 have HG0 := Lib.hid hg0
 clear hg0
 obtain ⟨c0, c1, c2, c3⟩ := HQ.win (.head _)
 go_wp2_with fail
 go_at_call 11
 refine (ref_good_two L H _ _ _).mono ?_
 rintro e w1 ⟨rfl, hB⟩
 replace HQ := (HQ.alloc _).on (hB.mono (by simp only [World.size_alloc]; omega))
 clear hB c0 c1 c2 c3
 cases hg : gdL [L, H]
 ·rw [hg] at HE
  have HB := Lib.hid HQ.1
  clear HQ hg
  go_wp2
  go_ret
  rw [HE.out]
  exact ⟨rfl, HB.out⟩
 ·rw [hg, if_pos rfl] at HE
  obtain ⟨c0, c1, c2, c3⟩ := HQ.win (.head _)
  have HB := Lib.hid HQ.1
  clear HQ hg
  by_cases h1 : H.1 < L.1
  ·rw [if_pos (.inl h1)] at HE
   go_wp2
   go_ret
   rw [HE.out]
   exact ⟨rfl, HB.out⟩
  ·by_cases h2 : H.2 < L.2
   ·rw [if_pos (.inr h2)] at HE
    go_wp2
    go_ret
    rw [HE.out]
    exact ⟨rfl, HB.out⟩
   ·rw [if_neg (by omega)] at HE
    go_wp2
    go_ret
    rw [HE.out]
    exact ⟨rfl, HB.out⟩

theorem hasB_iff {L H p : Int × Int} : hasB L H p = true ↔ InW L H p := by
 unfold hasB InW
 simp only [Bool.and_eq_true, decide_eq_true_eq, and_assoc]
theorem hasB_not {L H p : Int × Int} (h : hasB L H p = false) : ¬ InW L H p := fun e => by rw [hasB_iff.2 e] at h; cases h
noncomputable def cutV (L H a b : Int × Int) : Bool := @decide (Cut L H a b) (Classical.propDecidable _)
noncomputable def metV (L H : Int × Int) (r : List (Int × Int)) : Bool := @decide (Met L H r) (Classical.propDecidable _)
theorem cutV_iff {L H a b : Int × Int} : cutV L H a b = true ↔ Cut L H a b := by unfold cutV; exact @decide_eq_true_iff _ (Classical.propDecidable _)
theorem cutV_not {L H a b : Int × Int} : cutV L H a b = false ↔ ¬ Cut L H a b := by rw [← cutV_iff, Bool.not_eq_true]
theorem metV_iff {L H : Int × Int} {r : List (Int × Int)} : metV L H r = true ↔ Met L H r := by unfold metV; exact @decide_eq_true_iff _ (Classical.propDecidable _)
def farB (L H a b : Int × Int) : Bool := (((decide (a.1 < L.1) && decide (b.1 < L.1)) || (decide (H.1 < a.1) && decide (H.1 < b.1))) || (decide (a.2 < L.2) && decide (b.2 < L.2))) || (decide (H.2 < a.2) && decide (H.2 < b.2))
theorem farB_iff {L H a b : Int × Int} : farB L H a b = true ↔ Far L H a b := by
 unfold farB Far
 simp only [Bool.or_eq_true, Bool.and_eq_true, decide_eq_true_eq, or_assoc]
def lefB (L H a b : Int × Int) (k : Nat) : Bool := (List.range k).any fun j => decide (0 ≤ sgn (crs a b (cor L H j)))
def rigB (L H a b : Int × Int) (k : Nat) : Bool := (List.range k).any fun j => decide (sgn (crs a b (cor L H j)) ≤ 0)
theorem lefB_succ (L H a b : Int × Int) (k : Nat) : lefB L H a b (k + 1) = (lefB L H a b k || decide (0 ≤ sgn (crs a b (cor L H k)))) := by
 unfold lefB; rw [List.range_succ, List.any_append]; simp
theorem rigB_succ (L H a b : Int × Int) (k : Nat) : rigB L H a b (k + 1) = (rigB L H a b k || decide (sgn (crs a b (cor L H k)) ≤ 0)) := by
 unfold rigB; rw [List.range_succ, List.any_append]; simp
theorem sgn_ge {n : Int} : 0 ≤ sgn n ↔ 0 ≤ n := by have := sgn_lt (n := n); omega
theorem sgn_le {n : Int} : sgn n ≤ 0 ↔ n ≤ 0 := by have := sgn_gt (n := n); omega
theorem sidesB_iff {L H a b : Int × Int} : (lefB L H a b 4 && rigB L H a b 4) = true ↔ Sides L H a b := by
 unfold lefB rigB Sides
 simp only [Bool.and_eq_true, List.any_eq_true, List.mem_range, decide_eq_true_eq, sgn_ge, sgn_le]
theorem cutV_doc {L H a b : Int × Int} (hL : L.1 ≤ H.1 ∧ L.2 ≤ H.2) (h : farB L H a b = false) : cutV L H a b = (lefB L H a b 4 && rigB L H a b 4) := by
 have hf : ¬ Far L H a b := fun e => by rw [farB_iff.2 e] at h; cases h
 rw [Bool.eq_iff_iff, cutV_iff, sidesB_iff, cut_iff hL]
 exact ⟨fun h => h.2, fun h => ⟨hf, h⟩⟩
theorem cutV_far {L H a b : Int × Int} (h : farB L H a b = true) : cutV L H a b = false := cutV_not.2 fun e => cut_near e (farB_iff.1 h)
section
variable {w W : World} {L H a b : Int × Int}
theorem Hold.wab {g0 g1 g2 : Nat} {t0 t1 t2 : TypeId} {K : List (Nat × Array Value × TypeId)} (h : Hold w ((g2, #[.int .i64 b.1, .int .i64 b.2], t2) :: (g1, #[.int .i64 a.1, .int .i64 a.2], t1) :: (g0, #[.int .i64 L.1, .int .i64 L.2, .int .i64 H.1, .int .i64 H.2], t0) :: K) W) :
  (W.cell? ⟨g0, 0, none⟩ = some (.int .i64 L.1) ∧ W.cell? ⟨g0, 1, none⟩ = some (.int .i64 L.2) ∧ W.cell? ⟨g0, 2, none⟩ = some (.int .i64 H.1) ∧ W.cell? ⟨g0, 3, none⟩ = some (.int .i64 H.2)) ∧ W.cell? ⟨g1, 0, none⟩ = some (.int .i64 a.1) ∧ W.cell? ⟨g1, 1, none⟩ = some (.int .i64 a.2) ∧ W.cell? ⟨g2, 0, none⟩ = some (.int .i64 b.1) ∧ W.cell? ⟨g2, 1, none⟩ = some (.int .i64 b.2) :=
 ⟨h.win (.tail _ (.tail _ (.head _))), (h.pt (.tail _ (.head _))).1, (h.pt (.tail _ (.head _))).2, (h.pt (.head _)).1, (h.pt (.head _)).2⟩
end


set_option maxRecDepth 100000 in
set_option maxHeartbeats 8000000 in
theorem ref_cuts (L H a b : Int × Int) (hL : L.1 ≤ H.1 ∧ L.2 ≤ H.2) (hg : gdL [L, H] = true) (ha : Gd a) (hb : Gd b) (w : World) :
  Calls Tryz.prog 37 #[.agg #[.int .i64 L.1, .int .i64 L.2, .int .i64 H.1, .int .i64 H.2], .agg #[.int .i64 a.1, .int .i64 a.2], .agg #[.int .i64 b.1, .int .i64 b.2]] w fun e w' => e = .returned (.bool (cutV L H a b)) ∧ Below w.heap.size w w' := by
 have HQ := (((Hold.refl w).new #[.int .i64 L.1, .int .i64 L.2, .int .i64 H.1, .int .i64 H.2] 43).new' #[.int .i64 a.1, .int .i64 a.2] 28 (n := w.heap.size + 1) (by simp)).new' #[.int .i64 b.1, .int .i64 b.2] 28 (n := w.heap.size + 1 + 1) (by simp)
 have HA := Lib.hid (fun p W => ref_has L H p W)
 have hgc : ∀ k, Gd (cor L H k) := fun k => by
  obtain ⟨⟨l1, l2, l3, l4⟩, h1, h2, h3, h4⟩ := gdL_two.1 hg
  rcases k with _ | _ | _ | _ <;> exact ⟨by simp only [cor]; omega, by simp only [cor]; omega, by simp only [cor]; omega, by simp only [cor]; omega⟩
 have HT := Lib.hid (fun k W => ref_turn a b (cor L H k) ha hb (hgc k) W)
 have HLE := Lib.hid hL
 clear hgc ha hb hg hL
 go_enter Tryz.func37, Tryz.ntmps37
 go_upto_region 1 with (fail)
 generalize (World.alloc _ _) = W1 at HQ ⊢
 generalize w.heap.size + 1 + 1 = g2 at HQ ⊢
 generalize w.heap.size + 1 = g1 at HQ ⊢
 obtain ⟨g0, hg0⟩ : ∃ g, w.heap.size = g := ⟨_, rfl⟩
 rw [hg0] at HQ ⊢
 have HG0 := Lib.hid hg0
 clear hg0
 obtain ⟨⟨c0, c1, c2, c3⟩, d0, d1, e0, e1⟩ := HQ.wab
 go_wp2_with fail
 go_at_call 72
 refine (HA.out a _).mono ?_
 rintro e w1 ⟨rfl, hB⟩
 replace HQ := HQ.on hB
 clear hB c0 c1 c2 c3 d0 d1 e0 e1
 cases ha : hasB L H a
 ·obtain ⟨⟨c0, c1, c2, c3⟩, d0, d1, e0, e1⟩ := HQ.wab
  go_wp2_with fail
  go_at_call 72
  refine (HA.out b _).mono ?_
  rintro e w2 ⟨rfl, hB⟩
  replace HQ := HQ.on hB
  clear hB c0 c1 c2 c3 d0 d1 e0 e1
  cases hb : hasB L H b
  ·have HV := Lib.hid (fun h => cutV_far (L := L) (H := H) (a := a) (b := b) h)
   have HV2 := Lib.hid (fun h => cutV_doc (a := a) (b := b) HLE.out h)
   clear ha hb
   obtain ⟨⟨c0, c1, c2, c3⟩, d0, d1, e0, e1⟩ := HQ.wab
   go_upto_region 3 with (fail)
   go_cut [81] (fun s81 wx => s81 = .bool (farB L H a b) ∧ Hold w [(g2, #[.int .i64 b.1, .int .i64 b.2], 28), (g1, #[.int .i64 a.1, .int .i64 a.2], 28), (g0, #[.int .i64 L.1, .int .i64 L.2, .int .i64 H.1, .int .i64 H.2], 43)] wx)
   case first =>
    have HE : Hid (farB L H a b = ((((decide (a.1 < L.1) && decide (b.1 < L.1)) || (decide (H.1 < a.1) && decide (H.1 < b.1))) || (decide (a.2 < L.2) && decide (b.2 < L.2))) || (decide (H.2 < a.2) && decide (H.2 < b.2)))) := rfl
    clear HA HT HV HV2
    by_cases x0 : a.1 < L.1
    ·by_cases y0 : b.1 < L.1
     ·have HX : Hid (farB L H a b = true) := by unfold Hid; rw [HE.out, decide_eq_true x0, decide_eq_true y0]; rfl
      clear HE
      go_wp2_with fail
      go_meet
      exact ⟨by rw [HX.out], HQ⟩
     ·skip
      by_cases x1 : H.1 < a.1
      ·exact absurd HLE.out.1 (by omega)
      ·skip
       by_cases x2 : a.2 < L.2
       ·by_cases y2 : b.2 < L.2
        ·have HX : Hid (farB L H a b = true) := by unfold Hid; rw [HE.out, decide_eq_true x0, decide_eq_false y0, decide_eq_false x1, decide_eq_true x2, decide_eq_true y2]; rfl
         clear HE
         go_wp2_with fail
         go_meet
         exact ⟨by rw [HX.out], HQ⟩
        ·skip
         by_cases x3 : H.2 < a.2
         ·exact absurd HLE.out.2 (by omega)
         ·skip
          have HX : Hid (farB L H a b = false) := by unfold Hid; rw [HE.out, decide_eq_true x0, decide_eq_false y0, decide_eq_false x1, decide_eq_true x2, decide_eq_false y2, decide_eq_false x3]; rfl
          clear HE
          go_wp2_with fail
          go_meet
          exact ⟨by rw [HX.out], HQ⟩
       ·skip
        by_cases x3 : H.2 < a.2
        ·by_cases y3 : H.2 < b.2
         ·have HX : Hid (farB L H a b = true) := by unfold Hid; rw [HE.out, decide_eq_true x0, decide_eq_false y0, decide_eq_false x1, decide_eq_false x2, decide_eq_true x3, decide_eq_true y3]; rfl
          clear HE
          go_wp2_with fail
          go_meet
          exact ⟨by rw [HX.out], HQ⟩
         ·skip
          have HX : Hid (farB L H a b = false) := by unfold Hid; rw [HE.out, decide_eq_true x0, decide_eq_false y0, decide_eq_false x1, decide_eq_false x2, decide_eq_true x3, decide_eq_false y3]; rfl
          clear HE
          go_wp2_with fail
          go_meet
          exact ⟨by rw [HX.out], HQ⟩
        ·skip
         have HX : Hid (farB L H a b = false) := by unfold Hid; rw [HE.out, decide_eq_true x0, decide_eq_false y0, decide_eq_false x1, decide_eq_false x2, decide_eq_false x3]; rfl
         clear HE
         go_wp2_with fail
         go_meet
         exact ⟨by rw [HX.out], HQ⟩
    ·skip
     by_cases x1 : H.1 < a.1
     ·by_cases y1 : H.1 < b.1
      ·have HX : Hid (farB L H a b = true) := by unfold Hid; rw [HE.out, decide_eq_false x0, decide_eq_true x1, decide_eq_true y1]; rfl
       clear HE
       go_wp2_with fail
       go_meet
       exact ⟨by rw [HX.out], HQ⟩
      ·skip
       by_cases x2 : a.2 < L.2
       ·by_cases y2 : b.2 < L.2
        ·have HX : Hid (farB L H a b = true) := by unfold Hid; rw [HE.out, decide_eq_false x0, decide_eq_true x1, decide_eq_false y1, decide_eq_true x2, decide_eq_true y2]; rfl
         clear HE
         go_wp2_with fail
         go_meet
         exact ⟨by rw [HX.out], HQ⟩
        ·skip
         by_cases x3 : H.2 < a.2
         ·exact absurd HLE.out.2 (by omega)
         ·skip
          have HX : Hid (farB L H a b = false) := by unfold Hid; rw [HE.out, decide_eq_false x0, decide_eq_true x1, decide_eq_false y1, decide_eq_true x2, decide_eq_false y2, decide_eq_false x3]; rfl
          clear HE
          go_wp2_with fail
          go_meet
          exact ⟨by rw [HX.out], HQ⟩
       ·skip
        by_cases x3 : H.2 < a.2
        ·by_cases y3 : H.2 < b.2
         ·have HX : Hid (farB L H a b = true) := by unfold Hid; rw [HE.out, decide_eq_false x0, decide_eq_true x1, decide_eq_false y1, decide_eq_false x2, decide_eq_true x3, decide_eq_true y3]; rfl
          clear HE
          go_wp2_with fail
          go_meet
          exact ⟨by rw [HX.out], HQ⟩
         ·skip
          have HX : Hid (farB L H a b = false) := by unfold Hid; rw [HE.out, decide_eq_false x0, decide_eq_true x1, decide_eq_false y1, decide_eq_false x2, decide_eq_true x3, decide_eq_false y3]; rfl
          clear HE
          go_wp2_with fail
          go_meet
          exact ⟨by rw [HX.out], HQ⟩
        ·skip
         have HX : Hid (farB L H a b = false) := by unfold Hid; rw [HE.out, decide_eq_false x0, decide_eq_true x1, decide_eq_false y1, decide_eq_false x2, decide_eq_false x3]; rfl
         clear HE
         go_wp2_with fail
         go_meet
         exact ⟨by rw [HX.out], HQ⟩
     ·skip
      by_cases x2 : a.2 < L.2
      ·by_cases y2 : b.2 < L.2
       ·have HX : Hid (farB L H a b = true) := by unfold Hid; rw [HE.out, decide_eq_false x0, decide_eq_false x1, decide_eq_true x2, decide_eq_true y2]; rfl
        clear HE
        go_wp2_with fail
        go_meet
        exact ⟨by rw [HX.out], HQ⟩
       ·skip
        by_cases x3 : H.2 < a.2
        ·exact absurd HLE.out.2 (by omega)
        ·skip
         have HX : Hid (farB L H a b = false) := by unfold Hid; rw [HE.out, decide_eq_false x0, decide_eq_false x1, decide_eq_true x2, decide_eq_false y2, decide_eq_false x3]; rfl
         clear HE
         go_wp2_with fail
         go_meet
         exact ⟨by rw [HX.out], HQ⟩
      ·skip
       by_cases x3 : H.2 < a.2
       ·by_cases y3 : H.2 < b.2
        ·have HX : Hid (farB L H a b = true) := by unfold Hid; rw [HE.out, decide_eq_false x0, decide_eq_false x1, decide_eq_false x2, decide_eq_true x3, decide_eq_true y3]; rfl
         clear HE
         go_wp2_with fail
         go_meet
         exact ⟨by rw [HX.out], HQ⟩
        ·skip
         have HX : Hid (farB L H a b = false) := by unfold Hid; rw [HE.out, decide_eq_false x0, decide_eq_false x1, decide_eq_false x2, decide_eq_true x3, decide_eq_false y3]; rfl
         clear HE
         go_wp2_with fail
         go_meet
         exact ⟨by rw [HX.out], HQ⟩
       ·skip
        have HX : Hid (farB L H a b = false) := by unfold Hid; rw [HE.out, decide_eq_false x0, decide_eq_false x1, decide_eq_false x2, decide_eq_false x3]; rfl
        clear HE
        go_wp2_with fail
        go_meet
        exact ⟨by rw [HX.out], HQ⟩
   case rest =>
    obtain ⟨rfl, HK⟩ := hcut
    clear HQ c0 c1 c2 c3 d0 d1 e0 e1
    cases hf : farB L H a b
    ·have HE := Lib.hid (HV2.out hf)
     clear HV HV2 hf
     obtain ⟨⟨c0, c1, c2, c3⟩, d0, d1, e0, e1⟩ := HK.wab
     go_upto_region 6 with (fail)
     have HN := HK.new #[.int .i64 L.1, .int .i64 L.2, .int .i64 H.1, .int .i64 L.2, .int .i64 H.1, .int .i64 H.2, .int .i64 L.1, .int .i64 H.2] 28
     generalize (World.alloc wc _) = W5 at HN ⊢
     generalize wc.heap.size = g5 at HN ⊢
     clear HK c0 c1 c2 c3 d0 d1 e0 e1
     obtain ⟨ad, had⟩ : ∃ ad : Addr, (⟨g5, 0, none⟩ : Addr) = ad := ⟨_, rfl⟩
     have HR : Hid (∀ k W, Hold w [(g5, #[.int .i64 L.1, .int .i64 L.2, .int .i64 H.1, .int .i64 L.2, .int .i64 H.1, .int .i64 H.2, .int .i64 L.1, .int .i64 H.2], 28), (g2, #[.int .i64 b.1, .int .i64 b.2], 28), (g1, #[.int .i64 a.1, .int .i64 a.2], 28), (g0, #[.int .i64 L.1, .int .i64 L.2, .int .i64 H.1, .int .i64 H.2], 43)] W → k < 4 → W.cell? ⟨g1, 0, none⟩ = some (.int .i64 a.1) ∧ W.cell? ⟨g1, 1, none⟩ = some (.int .i64 a.2) ∧ W.cell? ⟨g2, 0, none⟩ = some (.int .i64 b.1) ∧ W.cell? ⟨g2, 1, none⟩ = some (.int .i64 b.2) ∧ W.cell? (ad.add (k * 2)) = some (.int .i64 (cor L H k).1) ∧ W.cell? ⟨(ad.add (k * 2)).block, (ad.add (k * 2)).off + 1, none⟩ = some (.int .i64 (cor L H k).2)) := fun k W h hk => by
      subst had
      refine ⟨(h.tail.tail.pt (.head _)).1, (h.tail.tail.pt (.head _)).2, (h.tail.pt (.head _)).1, (h.tail.pt (.head _)).2, ?_, ?_⟩
      ·rw [add_off, h.cell (.head _)]; rcases k with _ | _ | _ | _ | k <;> first | rfl | omega
      ·rw [add_off, h.cell (.head _)]; rcases k with _ | _ | _ | _ | k <;> first | rfl | omega
     rw [had]
     clear had
     have HBY := Lib.hid HN.1
     go_wp2_with fail
     go_loopg [8, 9, 10] 4 (fun g lf rg i wr => ∃ k : Nat, k ≤ 4 ∧ g = 4 - k ∧ i = .int .i64 k ∧ lf = .bool (lefB L H a b k) ∧ rg = .bool (rigB L H a b k) ∧ Hold w [(g5, #[.int .i64 L.1, .int .i64 L.2, .int .i64 H.1, .int .i64 L.2, .int .i64 H.1, .int .i64 H.2, .int .i64 L.1, .int .i64 H.2], 28), (g2, #[.int .i64 b.1, .int .i64 b.2], 28), (g1, #[.int .i64 a.1, .int .i64 a.2], 28), (g0, #[.int .i64 L.1, .int .i64 L.2, .int .i64 H.1, .int .i64 H.2], 43)] wr)
     case atStart => exact ⟨0, by omega, rfl, rfl, rfl, rfl, HN⟩
     case round =>
      clear HN
      obtain ⟨k, hk, hgk, rfl, rfl, rfl, HN⟩ := hrel
      have HGK := Lib.hid hgk
      clear hgk
      by_cases hlt : k < 4
      ·obtain ⟨f0, f1, f2, f3, f4, f5⟩ := HR.out k _ HN hlt
       have HTK := Lib.hid (HT.out k)
       have HL2 := Lib.hid (lefB_succ L H a b k)
       have HR2 := Lib.hid (rigB_succ L H a b k)
       have b0 : (0 : Int) ≤ (k : Int) := by omega
       have b1 : (k : Int) < 4 := by omega
       generalize lefB L H a b k = lf at *
       generalize rigB L H a b k = rg at *
       obtain ⟨c, hc⟩ : ∃ c, cor L H k = c := ⟨_, rfl⟩
       rw [hc] at f4 f5 HTK HL2 HR2
       have HC := Lib.hid hc
       clear hc
       go_upto_region 11 with (fail)
       go_cut [11] (fun s11 wx => s11 = .int .i64 (sgn (crs a b c)) ∧ Hold w [(g5, #[.int .i64 L.1, .int .i64 L.2, .int .i64 H.1, .int .i64 L.2, .int .i64 H.1, .int .i64 H.2, .int .i64 L.1, .int .i64 H.2], 28), (g2, #[.int .i64 b.1, .int .i64 b.2], 28), (g1, #[.int .i64 a.1, .int .i64 a.2], 28), (g0, #[.int .i64 L.1, .int .i64 L.2, .int .i64 H.1, .int .i64 H.2], 43)] wx)
       case first =>
        have HRK := Lib.hid (fun W h => HR.out k W h hlt)
        rw [show cor L H k = c from HC.out] at HRK
        clear HR HT HGK HL2 HR2 HBY HE
        go_region_held3 (fun W => W.cell? ⟨g1, 0, none⟩ = some (.int .i64 a.1) ∧ W.cell? ⟨g1, 1, none⟩ = some (.int .i64 a.2) ∧ W.cell? ⟨g2, 0, none⟩ = some (.int .i64 b.1) ∧ W.cell? ⟨g2, 1, none⟩ = some (.int .i64 b.2) ∧ W.cell? (ad.add (k * 2)) = some (.int .i64 c.1) ∧ W.cell? ⟨(ad.add (k * 2)).block, (ad.add (k * 2)).off + 1, none⟩ = some (.int .i64 c.2)) (first | exact HRK.out _ (by assumption) | exact HRK.out _ (Hold.drew (by assumption))) ((go_at_call 33; (with_reducible refine (HTK.out _).mono ?_); rintro e w' ⟨rfl, hB⟩; have HS' := Hold.on (by first | assumption | exact Hold.drew (by assumption)) hB))
        go_wp2_with fail
        go_meet
        exact ⟨rfl, HS'⟩
       case rest =>
        obtain ⟨rfl, HN2⟩ := hcut
        have hcs : (0 ≤ sgn (crs a b c) ∧ sgn (crs a b c) ≤ 0) ∨ (0 ≤ sgn (crs a b c) ∧ ¬ sgn (crs a b c) ≤ 0) ∨ (¬ 0 ≤ sgn (crs a b c) ∧ sgn (crs a b c) ≤ 0) := by omega
        have HNX : Hid (∀ p q : Bool, p = (lf || decide (0 ≤ sgn (crs a b c))) → q = (rg || decide (sgn (crs a b c) ≤ 0)) → ∃ k' : Nat, k' ≤ 4 ∧ 4 - (k + 1) = 4 - k' ∧ Value.int .i64 ((k : Int) + 1) = .int .i64 k' ∧ Value.bool p = .bool (lefB L H a b k') ∧ Value.bool q = .bool (rigB L H a b k') ∧ Hold w [(g5, #[.int .i64 L.1, .int .i64 L.2, .int .i64 H.1, .int .i64 L.2, .int .i64 H.1, .int .i64 H.2, .int .i64 L.1, .int .i64 H.2], 28), (g2, #[.int .i64 b.1, .int .i64 b.2], 28), (g1, #[.int .i64 a.1, .int .i64 a.2], 28), (g0, #[.int .i64 L.1, .int .i64 L.2, .int .i64 H.1, .int .i64 H.2], 43)] wc) := fun p q hp hq => ⟨k + 1, by omega, rfl, by go_num, by rw [hp, HL2.out], by rw [hq, HR2.out], HN2⟩
        clear HN HTK HR HT HBY HE HL2 HR2 HC HN2 f0 f1 f2 f3 f4 f5
        generalize sgn (crs a b c) = s at *
        have hwr := wrap_in (n := (k : Int) + 1) (by omega) (by omega)
        rcases hcs with ⟨s1, s2⟩ | ⟨s1, s2⟩ | ⟨s1, s2⟩
        all_goals
         have HX := Lib.hid (HNX.out _ _ rfl rfl)
         simp only [s1, s2, decide_true, decide_false, Bool.or_true, Bool.or_false] at HX
         clear HNX
         cases lf <;> cases rg
         all_goals
          go_wp2_with fail
          go_roundg (4 - (k + 1))
          case measure => have := HGK.out; omega
          case rel => exact HX.out
      ·obtain rfl : k = 4 := by omega
       have HBK := Lib.hid HN.1
       clear HR HT HBY HN
       have HE4 := HE
       clear HE
       cases hl : lefB L H a b 4 <;> cases hr : rigB L H a b 4
       all_goals
        rw [hl, hr] at HE4
        go_wp2
        go_ret
        rw [HE4.out]
        exact ⟨rfl, HBK.out⟩
    ·have HE := Lib.hid (HV.out hf)
     have HB := Lib.hid HK.1
     clear HV HV2 hf HK
     go_wp2
     go_ret
     rw [HE.out]
     exact ⟨rfl, HB.out⟩
  ·have HE : Hid (cutV L H a b = true) := cutV_iff.2 (cut_in' (hasB_iff.1 hb))
   have HB := Lib.hid HQ.1
   clear ha hb HQ
   go_wp2
   go_ret
   rw [HE.out]
   exact ⟨rfl, HB.out⟩
 ·have HE : Hid (cutV L H a b = true) := cutV_iff.2 (cut_in (hasB_iff.1 ha))
  have HB := Lib.hid HQ.1
  clear ha HQ
  go_wp2
  go_ret
  rw [HE.out]
  exact ⟨rfl, HB.out⟩
end Go.Proofs.YtoabooljgojoiaaGreat
