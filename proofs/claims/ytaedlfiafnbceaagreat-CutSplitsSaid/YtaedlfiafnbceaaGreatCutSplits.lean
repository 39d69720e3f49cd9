/- The walk of CutSplits. -/
import Derived.Test.YtaedlfiafnbceaaGreatRefSplit
import Derived.Test.YtaedlfiafnbceaaGreatCutV
import Derived.Test.YtaedlfiafnbceaaGreatRefSame
namespace Go.Proofs.YtaedlfiafnbceaaGreat
open Go.RowKit

theorem nil_same2 (W : World) : Calls Tryz.prog 9 #[.agg #[.slice none 0 0, .slice none 0 0], .agg #[.slice none 0 0, .slice none 0 0]] W fun e w' => e = .returned (.bool true) ∧ Below W.heap.size W w' := by
 have h := ref_samePlan [] [] none 0 [] none 0 none 0 [] none 0 (Nat.zero_le _) (Nat.zero_le _) W ⟨Items.nil _ _ _ _, fun x hx => nomatch hx⟩ ⟨Items.nil _ _ _ _, fun x hx => nomatch hx⟩ (fun hp => absurd hp (by simp)) (fun hp => absurd hp (by simp))
 rw [show decide (([] : List (Int × Int)) = [] ∧ ([] : List PV).map PV.par = ([] : List PV).map PV.par) = true by simp] at h
 exact h
set_option maxRecDepth 100000 in
set_option maxHeartbeats 2000000 in
theorem splits_walk (o : List (Int × Int)) (Ao : Option Addr) (co : Nat) (l : List PV) (Ap : Option Addr) (cp : Nat) (id : Int) (path : List (Int × Int)) (A : Option Addr) (ca : Nat) (fresh : Int) (hl : l.length ≤ 8796093022208) (hown : ∀ x ∈ l, x.par.own.size ≤ maxLen) (hn : path.length * 16 ≤ 140737488355328) (hnA : NilOk A ca) (w : World) (h : PlanAt w o Ao co l Ap cp) (hq : Pts w w.heap.size A path) :
  Calls Tryz.prog 3 #[.agg #[.slice Ao o.length co, .slice Ap l.length cp], .int .i64 id, .slice A path.length ca, .int .i64 fresh] w fun e w' => e = .returned (.bool true) ∧ Below w.heap.size w w' := by
 have HAN := Lib.hid (fun W => cut_answers W)
 have HFW := Lib.hid (fun K W (hh : Hold w K W) => few6_any o Ao co l Ap cp (by have := h.room; omega) W (h.prs.on hh.1))
 have HSP := Lib.hid (fun (hl : l.length ≤ 80) K W (hh : Hold w K W) => lawSplit_any o Ao co l Ap cp id path A ca fresh (by omega) (by have := h.room; omega) hown hn hnA W (h.on hh.1) (hq.on hh.1))
 have HRS := Lib.hid (fun (hl : l.length ≤ 80) (ho : o.length ≤ 300) K W (hh : Hold w K W) => ref_split o Ao co l Ap cp id path A ca fresh (by omega) (by omega) hown hn hnA W (h.on hh.1) (hq.on hh.1))
 have HL : Hid (path.length ≤ 9000000000000000000) := by unfold Hid; omega
 have HQ := (Hold.refl w).new #[.slice Ao o.length co, .slice Ap l.length cp] 26
 clear h hq hl hown hn hnA
 go_enter Tryz.func3, Tryz.ntmps3
 go_upto_region 1 with (fail)
 generalize (World.alloc _ _) = W1 at HQ ⊢
 obtain ⟨g4, hg4⟩ : ∃ g, w.heap.size = g := ⟨_, rfl⟩
 rw [hg4] at HQ ⊢
 have HG4 := Lib.hid hg4
 clear hg4
 have HQ1 := Lib.hid HQ
 clear HQ
 go_wp2_with fail
 go_at_call 5
 refine (HAN.out _).mono ?_
 rintro e' W2 ⟨rfl, hB⟩
 have hq2 := HQ1.out.on hB
 obtain ⟨c0, c1⟩ := hq2.pt (.head _)
 have HQ2 := Lib.hid hq2
 clear hB hq2
 go_wp2_with fail
 go_at_call 6
 refine (HFW.out _ _ HQ2.out).mono ?_
 rintro e' W3 ⟨b, rfl, hb80, hB⟩
 have hq3 := HQ2.out.on hB
 have HB80 := Lib.hid hb80
 clear c0 c1 hB hb80
 obtain ⟨c0, c1⟩ := hq3.pt (.head _)
 have HQ3 := Lib.hid hq3
 clear hq3
 cases b
 ·go_wp2_with (go_at_call 5; go_must (refine (HAN.out _).mono ?_; rintro e' W8 ⟨rfl, hB⟩; have HQ8 := Lib.hid (HQ3.out.on hB); clear hB))
  go_ret
  exact ⟨rfl, HQ8.out.1⟩
 ·by_cases h150 : 150 < path.length
  ·have h1 : 150 < (path.length : Int) := by omega
   go_wp2_with (go_at_call 5; go_must (refine (HAN.out _).mono ?_; rintro e' W8 ⟨rfl, hB⟩; have HQ8 := Lib.hid (HQ3.out.on hB); clear hB))
   go_ret
   exact ⟨rfl, HQ8.out.1⟩
  ·have h1 : ¬ 150 < (path.length : Int) := by omega
   have hbb := HB80.out (by first | trivial | rfl)
   have HRX := Lib.hid (HRS.out hbb.2.2 hbb.1)
   have HSX := Lib.hid (HSP.out hbb.2.2)
   clear HB80 hbb HRS HSP HFW
   go_wp2_with fail
   go_at_call 7
   refine (HSX.out _ _ HQ3.out).mono ?_
   rintro e' W4 ⟨hB, ⟨hne, rfl⟩ | ⟨hz, D1, d1, Dp, dp, lq, rfl, hml, r1, r2, r3⟩⟩
   ·have hq4 := (HQ3.out.on hB).new #[.slice none 0 0, .slice none 0 0] 26
    have HNE := Lib.hid hne
    clear hB c0 c1 hne HSX
    go_upto_region 4 with (fail)
    generalize (World.alloc _ _) = W5 at hq4 ⊢
    generalize W4.heap.size = g9 at hq4 ⊢
    have HQ4 := Lib.hid hq4
    obtain ⟨c0, c1⟩ := hq4.pt (.tail _ (.head _))
    clear hq4
    go_wp2_with fail
    go_at_call 8
    refine (HRX.out _ _ HQ4.out).mono ?_
    rintro e' W6 ⟨hB6, ⟨hne2, rfl⟩ | ⟨hz2, -⟩⟩
    case inr => exact absurd hz2 HNE.out
    have hq6 := (HQ4.out.on hB6).new #[.slice none 0 0, .slice none 0 0] 26
    have HQ6 := Lib.hid hq6
    obtain ⟨d0, d1⟩ := hq6.pt (.tail _ (.head _))
    obtain ⟨d2, d3⟩ := hq6.pt (.head _)
    clear hq6 hB6 hne2 HNE c0 c1
    generalize sptE o (l.map PV.par) id path fresh = se at *
    have e0 : (se == se) = true := beq_self_eq_true _
    go_wp2_with (go_at_call 9; go_must (refine (nil_same2 _).mono ?_; rintro e' W8 ⟨rfl, hB⟩; have HQ8 := Lib.hid (HQ6.out.on hB); clear hB))
    go_ret
    exact ⟨rfl, HQ8.out.1⟩
   ·obtain ⟨hpl, hl2, ho2, hw2⟩ := split_plan hz hml r1 r2 r3
    have hq4 := (HQ3.out.on hB).new #[.slice D1 (putE o path).length d1, .slice Dp lq.length dp] 26
    have hp4 := hpl.on ((Below.refl _ W4).alloc (Nat.le_refl _) (.cells #[.slice D1 (putE o path).length d1, .slice Dp lq.length dp] 26 (0, 0)))
    have HZ := Lib.hid hz
    have HML := Lib.hid hml
    have HLQ : Hid (lq.length ≤ 64 ∧ (putE o path).length ≤ 128) := ⟨hl2, ho2⟩
    clear hB hpl hl2 ho2 hw2 hz hml r1 r2 r3 HSX c0 c1
    go_upto_region 4 with (fail)
    generalize (World.alloc _ _) = W5 at hq4 hp4 ⊢
    generalize W4.heap.size = g9 at hq4 ⊢
    have HQ4 := Lib.hid hq4
    have HP4 := Lib.hid hp4
    obtain ⟨c0, c1⟩ := hq4.pt (.tail _ (.head _))
    clear hq4 hp4
    go_wp2_with fail
    go_at_call 8
    refine (HRX.out _ _ HQ4.out).mono ?_
    rintro e' W6 ⟨hB6, ⟨hne2, -⟩ | ⟨hz2, E1, e1, Ep, ep, lr, rfl, hmr, s1, s2, s3⟩⟩
    case inl => exact absurd HZ.out hne2
    obtain ⟨hpl, hl2, ho2, hw2⟩ := split_plan hz2 hmr s1 s2 s3
    have hba := (Below.refl _ W6).alloc (Nat.le_refl _) (.cells #[.slice E1 (putE o path).length e1, .slice Ep lr.length ep] 26 (0, 0))
    have hq6 := (HQ4.out.on hB6).new #[.slice E1 (putE o path).length e1, .slice Ep lr.length ep] 26
    have hp6 := (HP4.out.on hB6).on hba
    have hp7 := hpl.on hba
    have hx := ref_samePlan (putE o path) (putE o path) D1 d1 lq Dp dp E1 e1 lr Ep ep (by have := HLQ.out.2; unfold maxLen; omega) (by have := HLQ.out.1; omega) _ hp6.prs hp7.prs hp6.out hp7.out
    rw [show decide (putE o path = putE o path ∧ lq.map PV.par = lr.map PV.par) = true from decide_eq_true ⟨rfl, HML.out.trans hmr.symm⟩] at hx
    have HSM := Lib.hid hx
    have HQ6 := Lib.hid hq6
    obtain ⟨d0, d1'⟩ := hq6.pt (.tail _ (.head _))
    obtain ⟨d2, d3⟩ := hq6.pt (.head _)
    clear hq6 hB6 hz2 hmr s1 s2 s3 hpl hl2 ho2 hw2 hba hp6 hp7 hx c0 c1
    go_wp2_with (go_at_call 9; go_must (refine HSM.out.mono ?_; rintro e' W8 ⟨rfl, hB⟩; have HQ8 := Lib.hid (HQ6.out.on hB); clear hB))
    go_ret
    exact ⟨rfl, HQ8.out.1⟩
end Go.Proofs.YtaedlfiafnbceaaGreat
