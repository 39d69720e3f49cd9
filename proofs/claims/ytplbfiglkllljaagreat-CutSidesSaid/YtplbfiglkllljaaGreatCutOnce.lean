/- The walk of CutOnce. -/
import Derived.Test.YtplbfiglkllljaaGreatCutL
namespace Go.Proofs.YtplbfiglkllljaaGreat
open Go.RowKit

/-- What comes of a cut that is none of the errors, as it lies in memory. -/
theorem split_plan {w w' : World} {o : List (Int × Int)} {ps : List Par} {id : Int} {path : List (Int × Int)} {fresh : Int} {A1 Ap1 : Option Addr} {c1 cp1 : Nat} {l' : List PV} (hz : sptE o ps id path fresh = 0) (hml : l'.map PV.par = sptL ps id path fresh) (r1 : Row w (.slice A1 (putE o path).length c1) (putE o path) w') (r2 : RowI w 40 3 encV (.slice Ap1 l'.length cp1) l' w') (r3 : OwnRs w l' w') : PlanAt w' (putE o path) A1 c1 l' Ap1 cp1 ∧ l'.length ≤ 64 ∧ (putE o path).length ≤ 128 ∧ ∀ x ∈ l', x.par.own.size ≤ maxLen := by
  have hQ := (chkQ_iff _ _).1 (sp_zero hz).2.2.2
  have ho := hQ.outP.2.2
  have hm : ∀ x ∈ l', x.par ∈ sptL ps id path fresh := fun x hx => by rw [← hml]; exact List.mem_map_of_mem hx
  refine ⟨planAt_of r1 r2 r3 (by omega) (fun x hx => by have := (hQ.ringP (hm x hx)).2.2; omega), ?_, ho, fun x hx => ?_⟩
  · have h1 := hQ.fine.2.2.2.1
    have h2 := congrArg List.length hml
    rw [List.length_map] at h2
    omega
  · have := (hQ.fine.2.1 _ (hm x hx)).2.2
    unfold maxLen; omega
set_option maxRecDepth 100000 in
set_option maxHeartbeats 2000000 in
theorem once_walk (o : List (Int × Int)) (Ao : Option Addr) (co : Nat) (l : List PV) (Ap : Option Addr) (cp : Nat) (id : Int) (path : List (Int × Int)) (A : Option Addr) (ca : Nat) (fresh other : Int) (hl : l.length ≤ 8796093022208) (hown : ∀ x ∈ l, x.par.own.size ≤ maxLen) (hn : path.length * 16 ≤ 140737488355328) (hnA : NilOk A ca) (w : World) (h : PlanAt w o Ao co l Ap cp) (hq : Pts w w.heap.size A path) :
    Calls Tryz.prog 6 #[.agg #[.slice Ao o.length co, .slice Ap l.length cp], .int .i64 id, .slice A path.length ca, .int .i64 fresh, .int .i64 other] w fun e w' => e = .returned (.bool true) ∧ Below w.heap.size w w' := by
  have HAN := Lib.hid (fun W => cut_answers W)
  have HFW := Lib.hid (fun K W (hh : Hold w K W) => few6_any o Ao co l Ap cp (by have := h.room; omega) W (h.prs.on hh.1))
  have HSP := Lib.hid (fun (hl : l.length ≤ 80) K W (hh : Hold w K W) => lawSplit_any o Ao co l Ap cp id path A ca fresh (by omega) (by have := h.room; omega) hown hn hnA W (h.on hh.1) (hq.on hh.1))
  have HS2 := Lib.hid (fun o2 A2 c2 l2 Ap2 cp2 id2 fr2 (h2 : l2.length ≤ 64) (h3 : o2.length ≤ 128) (h4 : ∀ x ∈ l2, x.par.own.size ≤ maxLen) K W (hh : Hold w K W) (hp : PlanAt W o2 A2 c2 l2 Ap2 cp2) => lawSplit_any o2 A2 c2 l2 Ap2 cp2 id2 path A ca fr2 (by omega) (by omega) h4 hn hnA W hp (hq.on hh.1))
  have HL : Hid (path.length ≤ 9000000000000000000) := by unfold Hid; omega
  have HQ := (Hold.refl w).new #[.slice Ao o.length co, .slice Ap l.length cp] 26
  clear h hq hl hown hn hnA
  go_enter Tryz.func6, Tryz.ntmps6
  go_upto_region 1 with (fail)
  generalize (World.alloc _ _) = W1 at HQ ⊢
  obtain ⟨g5, hg5⟩ : ∃ g, w.heap.size = g := ⟨_, rfl⟩
  rw [hg5] at HQ ⊢
  have HG5 := Lib.hid hg5
  clear hg5
  have HQ1 := Lib.hid HQ
  clear HQ
  go_wp2_with fail
  go_at_call 12
  refine (HAN.out _).mono ?_
  rintro e' W2 ⟨rfl, hB⟩
  have hq2 := HQ1.out.on hB
  obtain ⟨c0, c1⟩ := hq2.pt (.head _)
  have HQ2 := Lib.hid hq2
  clear hB hq2
  go_wp2_with fail
  go_at_call 13
  refine (HFW.out _ _ HQ2.out).mono ?_
  rintro e' W3 ⟨b, rfl, hb80, hB⟩
  have hq3 := HQ2.out.on hB
  have HB80 := Lib.hid hb80
  clear c0 c1 hB hb80
  obtain ⟨c0, c1⟩ := hq3.pt (.head _)
  have HQ3 := Lib.hid hq3
  clear hq3
  cases b
  · go_wp2_with (go_at_call 12; go_must (refine (HAN.out _).mono ?_; rintro e' W8 ⟨rfl, hB⟩; have HQ8 := Lib.hid (HQ3.out.on hB); clear hB))
    go_ret
    exact ⟨rfl, HQ8.out.1⟩
  · by_cases h150 : 150 < path.length
    · have h1 : 150 < (path.length : Int) := by omega
      go_wp2_with (go_at_call 12; go_must (refine (HAN.out _).mono ?_; rintro e' W8 ⟨rfl, hB⟩; have HQ8 := Lib.hid (HQ3.out.on hB); clear hB))
      go_ret
      exact ⟨rfl, HQ8.out.1⟩
    · have h1 : ¬ 150 < (path.length : Int) := by omega
      go_wp2_with fail
      go_at_call 14
      refine (HSP.out (HB80.out (by first | trivial | rfl)).2.2 _ _ HQ3.out).mono ?_
      rintro e' W4 ⟨hB, ⟨hne, rfl⟩ | ⟨hz, D1, d1, Dp, dp, lq, rfl, hml, r1, r2, r3⟩⟩
      · have hq4 := HQ3.out.on hB
        have HQ4 := Lib.hid hq4
        have e0 : (sptE o (l.map PV.par) id path fresh == 0) = false := by simpa using hne
        clear hB hq4 hne
        generalize sptE o (l.map PV.par) id path fresh = se at *
        go_wp2
        go_ret
        exact ⟨rfl, (HQ4.out.new _ _).1⟩
      · obtain ⟨hpl, hl2, ho2, hw2⟩ := split_plan hz hml r1 r2 r3
        have hB4 := hB
        have hq4 := (HQ3.out.on hB).new #[.slice D1 (putE o path).length d1, .slice Dp lq.length dp] 26
        have hp4 := hpl.on ((Below.refl _ W4).alloc (Nat.le_refl _) (.cells #[.slice D1 (putE o path).length d1, .slice Dp lq.length dp] 26 (0, 0)))
        have HS := Lib.hid (fun id2 fr2 W (hb : Below (W4.alloc (.cells #[.slice D1 (putE o path).length d1, .slice Dp lq.length dp] 26 (0, 0))).heap.size (W4.alloc (.cells #[.slice D1 (putE o path).length d1, .slice Dp lq.length dp] 26 (0, 0))) W) => HS2.out (putE o path) D1 d1 lq Dp dp id2 fr2 hl2 ho2 hw2 _ W (hq4.on hb) (hp4.on hb))
        rw [hml] at HS
        have HE6 := Lib.hid (once_there hz)
        have HEI := Lib.hid (once_id hz other)
        have HEF := Lib.hid (once_fresh hz other)
        clear hB hpl hl2 ho2 hw2 hp4 hB4 hz hml r1 r2 r3 HSP HS2 HFW
        generalize putE o path = o2 at *
        generalize sptL (l.map PV.par) id path fresh = l2 at *
        go_upto_region 6 with (fail)
        generalize (World.alloc _ _) = W5 at hq4 HS ⊢
        generalize W4.heap.size = g11 at hq4 ⊢
        have HQ5 := Lib.hid hq4
        obtain ⟨d0, d1'⟩ := hq4.pt (.head _)
        clear c0 c1 hq4
        go_wp2_with fail
        go_at_call 14
        refine (HS.out id fresh _ (Below.refl _ _)).mono ?_
        rintro e' W6 ⟨hB6, ⟨hne, rfl⟩ | ⟨hz, -⟩⟩
        case inr => rw [HE6.out] at hz; cases hz
        rw [HE6.out]
        have hb7 := hB6.alloc hB6.size (Obj.cells #[.slice none 0 0, .slice none 0 0] 26 (0, 0))
        have HB7 := Lib.hid hb7
        have hq7 := HQ5.out.on hb7
        clear d0 d1' hB6 hne
        obtain ⟨d0, d1'⟩ := hq7.pt (.head _)
        clear hq7 hb7
        go_upto_region 7 with (fail)
        generalize (World.alloc _ _) = W7 at HB7 d0 d1' ⊢
        go_wp2_with fail
        go_at_call 14
        refine (HS.out id other _ HB7.out).mono ?_
        rintro e' W8 ⟨hB8, ⟨hne, rfl⟩ | ⟨hz, -⟩⟩
        case inr => exact absurd hz HEI.out
        have e1 : (sptE o2 l2 id path other == 0) = false := by simpa using hne
        clear hne HEI
        generalize sptE o2 l2 id path other = s1 at *
        have hb9 := HB7.out.trans ((hB8.alloc hB8.size (Obj.cells #[.slice none 0 0, .slice none 0 0] 26 (0, 0))).mono HB7.out.size)
        have HB9 := Lib.hid hb9
        have hq9 := HQ5.out.on hb9
        clear d0 d1' hB8
        obtain ⟨d0, d1'⟩ := hq9.pt (.head _)
        clear hq9 hb9
        go_upto_region 8 with (fail)
        generalize (World.alloc _ _) = W9 at HB9 d0 d1' ⊢
        go_wp2_with fail
        go_at_call 14
        refine (HS.out fresh other _ HB9.out).mono ?_
        rintro e' W10 ⟨hB10, ⟨hne, rfl⟩ | ⟨hz, -⟩⟩
        case inr => exact absurd hz HEF.out
        have e2 : (sptE o2 l2 fresh path other == 0) = false := by simpa using hne
        clear hne HEF
        generalize sptE o2 l2 fresh path other = s2 at *
        have hb11 := HB9.out.trans ((hB10.alloc hB10.size (Obj.cells #[.slice none 0 0, .slice none 0 0] 26 (0, 0))).mono HB9.out.size)
        have HQ11 := Lib.hid (HQ5.out.on hb11)
        clear d0 d1' hB10 hb11
        have f1 : ¬ s1 = 0 := by simpa using e1
        have f2 : ¬ s2 = 0 := by simpa using e2
        go_wp2
        go_ret
        refine ⟨?_, HQ11.out.1⟩
        show Ending.returned (.bool (s1 != 0 && s2 != 0)) = _
        simp [f1, f2]
end Go.Proofs.YtplbfiglkllljaaGreat
