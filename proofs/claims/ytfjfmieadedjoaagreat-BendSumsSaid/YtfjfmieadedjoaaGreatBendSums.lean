/- The walk of BendSums. -/
import Derived.Test.YtfjfmieadedjoaaGreatBendMoves
namespace Go.Proofs.YtfjfmieadedjoaaGreat
open Go.RowKit

noncomputable def smA (p : Int × Int) (y : Par) : Int := if p ∈ y.ring then area y.ring else 0
noncomputable def smB (p q : Int × Int) (y : Par) : Int := if p ∈ y.ring then area (nmP (bmP p q y)).ring else 0
theorem bm_first {o : List (Int × Int)} {ps : List Par} {p q : Int × Int} (h : bmE o ps p q = 0) : PlanQ o ps := by
 unfold bmE at h
 split at h
 ·cases h
 ·rename_i h1
  exact (chkQ_iff _ _).1 ((Bool.not_eq_false _).mp h1)
theorem sm_lim {f : Par → Int} {ps : List Par} (h : ∀ y ∈ ps, -295147905179352825856 ≤ f y ∧ f y ≤ 295147905179352825856) : ∀ k, k ≤ ps.length → -(k * 295147905179352825856) ≤ sumL f (ps.take k) ∧ sumL f (ps.take k) ≤ k * 295147905179352825856
 |0, _ => by simp [sumL]
 |k + 1, hk => by
  have ih := sm_lim h k (by omega)
  rw [List.take_succ_eq_append_getElem (by omega), sumL_append]
  have hl := h ps[k] (List.getElem_mem _)
  have : sumL f [ps[k]] = f ps[k] := by simp [sumL]
  rw [this]
  generalize sumL f (ps.take k) = u at *
  generalize f ps[k] = v at *
  omega
section
variable {o : List (Int × Int)} {ps : List Par} {p q : Int × Int} 
theorem sm_out (hP : PlanQ o ps) {x : Par} (hx : x ∈ ps) (hp : p ∉ x.ring) : nmP (bmP p q x) = x := by
 rw [bm_out hp]
 obtain ⟨h1, h2⟩ := normP_iff.1 (hP.each x hx)
 unfold nmP
 rw [nm_nrm h1 h2]
theorem sm_same (hP : PlanQ o ps) (hQ : PlanQ o (ps.map fun x => nmP (bmP p q x))) : sumL (smA p) ps = sumL (smB p q) ps := by
 have h1 := hP.sum
 have h2 := hQ.sum
 rw [sumL_map] at h2
 have key : sumL (fun x => smA p x + area (nmP (bmP p q x)).ring) ps = sumL (fun x => smB p q x + area x.ring) ps := sumL_ext fun x hx => by
  unfold smA smB
  by_cases hp : p ∈ x.ring
  ·rw [if_pos hp, if_pos hp]; omega
  ·rw [if_neg hp, if_neg hp, sm_out hP hx hp]
 rw [sumL_add, sumL_add, h2, h1] at key
 omega
theorem smA_lim (hP : PlanQ o ps) : ∀ k, k ≤ ps.length → -(k * 295147905179352825856) ≤ sumL (smA p) (ps.take k) ∧ sumL (smA p) (ps.take k) ≤ k * 295147905179352825856 := sm_lim fun y hy => by
 have := area_lim (hP.each y hy).1
 unfold smA
 split <;> omega
theorem smB_lim (hQ : PlanQ o (ps.map fun x => nmP (bmP p q x))) : ∀ k, k ≤ ps.length → -(k * 295147905179352825856) ≤ sumL (smB p q) (ps.take k) ∧ sumL (smB p q) (ps.take k) ≤ k * 295147905179352825856 := sm_lim fun y hy => by
 have := area_lim (hQ.each _ (List.mem_map_of_mem hy)).1
 unfold smB
 split <;> omega
end
set_option maxRecDepth 100000 in
set_option maxHeartbeats 20000000 in
theorem sums_walk (o : List (Int × Int)) (Ao : Option Addr) (co : Nat) (l : List PV) (Ap : Option Addr) (cp : Nat) (p q : Int × Int) (hown : ∀ x ∈ l, x.par.own.size ≤ maxLen) (w : World) (h : PlanAt w o Ao co l Ap cp) :
  Calls Tryz.prog 6 #[.agg #[.slice Ao o.length co, .slice Ap l.length cp], .agg #[.int .i64 p.1, .int .i64 p.2], .agg #[.int .i64 q.1, .int .i64 q.2]] w fun e w' => e = .returned (.bool true) ∧ Below w.heap.size w w' := by
 have HAN := Lib.hid (fun W => bend_answers W)
 have HFW := Lib.hid (fun K W (hh : Hold w K W) => few8_any o Ao co l Ap cp (by have := h.room; omega) W (h.prs.on hh.1))
 have HOWX := Lib.hid (fun (hl : l.length ≤ 80) W (hb : Below w.heap.size w W) => Own_own o Ao co l Ap cp (by omega) W (h.on hb))
 have HMKX : Hid (l.length ≤ 80 → ∀ (A1 : Option Addr) (c1 : Nat) (l' : List PV) (Ap1 : Option Addr) (cp1 : Nat) (W : World), l'.map PV.par = l.map PV.par → PlanAt W o A1 c1 l' Ap1 cp1 → Calls Tryz.prog 10 #[.agg #[.slice A1 o.length c1, .slice Ap1 l.length cp1], .agg #[.int .i64 p.1, .int .i64 p.2], .agg #[.int .i64 q.1, .int .i64 q.2]] W fun e w' => MkAns W w' (mvO o (l.map PV.par) p q) (mvQ o (l.map PV.par) p q) (bmE o (l.map PV.par) p q) e) := fun hl A1 c1 l' Ap1 cp1 W hm hp => by
  have hlen : l'.length = l.length := par_len hm
  have hx := Move_any o A1 c1 l' Ap1 cp1 p q (by omega) (by have := h.room; omega) (own_par hm hown) W hp
  rw [hlen, hm] at hx
  exact hx.mono fun e w' hh => hh.ans
 have HSM := Lib.hid (mv_small o (l.map PV.par) p q)
 have HRG := Lib.hid (fun (l2 : List PV) (hm : l2.map PV.par = mvQ o (l.map PV.par) p q) => mv_rings hm)
 have HBAD : Hid (bmE o (l.map PV.par) p q ≠ 0 → mvO o (l.map PV.par) p q = [] ∧ mvQ o (l.map PV.par) p q = []) := fun h => ⟨if_neg h, if_neg h⟩
 have HOK : Hid (bmE o (l.map PV.par) p q = 0 → o = mvO o (l.map PV.par) p q ∧ PlanQ o (l.map PV.par) ∧ mvQ o (l.map PV.par) p q = (l.map PV.par).map (fun x => nmP (bmP p q x)) ∧ PlanQ o ((l.map PV.par).map fun x => nmP (bmP p q x))) := fun h => ⟨(if_pos h).symm, bm_first h, if_pos h, bm_sound h⟩
 have HPL := Lib.hid (fun W (hb : Below w.heap.size w W) => h.on hb)
 have HOWN := Lib.hid hown
 have HQ := (((Hold.refl w).new #[.slice Ao o.length co, .slice Ap l.length cp] 26).new' #[.int .i64 p.1, .int .i64 p.2] 28 (n := w.heap.size + 1) (by simp)).new' #[.int .i64 q.1, .int .i64 q.2] 28 (n := w.heap.size + 1 + 1) (by simp)
 clear h hown
 generalize mvO o (l.map PV.par) p q = on at *
 generalize mvQ o (l.map PV.par) p q = qs at *
 generalize bmE o (l.map PV.par) p q = er at *
 go_enter Tryz.func6, Tryz.ntmps6
 go_upto_region 1 with (fail)
 generalize (World.alloc _ _) = W1 at HQ ⊢
 generalize w.heap.size + 1 + 1 = g5 at HQ ⊢
 generalize w.heap.size + 1 = g4 at HQ ⊢
 obtain ⟨g3, hg3⟩ : ∃ g, w.heap.size = g := ⟨_, rfl⟩
 rw [hg3] at HQ ⊢
 have HG3 := Lib.hid hg3
 clear hg3
 have HQ1 := Lib.hid HQ
 clear HQ
 go_wp2_with fail
 go_at_call 8
 refine (HAN.out _).mono ?_
 rintro e' W2 ⟨rfl, hB⟩
 have hq2 := HQ1.out.on hB
 obtain ⟨c0, c1⟩ := hq2.pt (.tail _ (.tail _ (.head _)))
 have HQ2 := Lib.hid hq2
 clear hB hq2
 go_wp2_with fail
 go_at_call 9
 refine (HFW.out _ _ HQ2.out).mono ?_
 rintro e' W3 ⟨b, rfl, hb80, hB⟩
 have HQ3 := Lib.hid (HQ2.out.on hB)
 have HB80 := Lib.hid hb80
 clear c0 c1 hB hb80 HFW
 cases b
 ·go_wp2_with fail
  go_at_call 8
  refine (HAN.out _).mono ?_
  rintro e' W8 ⟨rfl, hB⟩
  have HQ8 := Lib.hid (HQ3.out.on hB)
  clear hB
  go_wp2
  go_ret
  exact ⟨rfl, HG3.out ▸ HQ8.out.1⟩
 ·have hbb := HB80.out (by first | trivial | rfl)
  have HOW := Lib.hid (HOWX.out hbb.2.2)
  have HMK := Lib.hid (HMKX.out hbb.2.2)
  clear HB80 hbb HOWX HMKX HAN
  go_upto_region 3 with (fail)
  go_cut [7, 8] (fun s5 s6 wx => ∃ g7 A2 c2 l2 Ap2 cp2, s5 = .pointer (some ⟨g7, 0, none⟩) ∧ s6 = .int .i64 er ∧ l2.map PV.par = qs ∧ Og w A2 on c2 Ap2 l2.length l2 cp2 g7 [(g5, #[.int .i64 q.1, .int .i64 q.2], 28), (g4, #[.int .i64 p.1, .int .i64 p.2], 28), (g3, #[.slice Ao o.length co, .slice Ap l.length cp], 26)] wx)
  case first =>
   as_aux_lemma =>
    have h1 := HQ3.out.drew
    clear HSM HRG HBAD HOK HPL HOWN
    refine wp_region_held_drew (S := fun W => W.cell? ⟨g3, 0, none⟩ = some (.slice Ao o.length co) ∧ W.cell? ⟨g3, 1, none⟩ = some (.slice Ap l.length cp) ∧ W.cell? ⟨g4, 0, none⟩ = some (.int .i64 p.1) ∧ W.cell? ⟨g4, 1, none⟩ = some (.int .i64 p.2) ∧ W.cell? ⟨g5, 0, none⟩ = some (.int .i64 q.1) ∧ W.cell? ⟨g5, 1, none⟩ = some (.int .i64 q.2)) (by kernel_rfl) ?_ (fun hHeld => ?_)
    ·(try dsimp only)
     exact Hold.rd3 h1
    refine tZ 0 ?_; refine tZ 2 ?_; refine tZ 3 ?_
    generalize (World.drew _) = Wd at h1 hHeld ⊢
    refine wpAnyH_ready (rs := [1, 8]) (by decide +kernel) (by simp) ?_
    refine AllReadyH.cons rfl (fun K hK => ?_) (AllReadyH.cons rfl (fun K hK => ?_) AllReadyH.nil)
    ·(try simp only [jA, jB, jC])
     go_simp
     go_at_call 11
     refine (HOW.out _ h1.1).mono ?_
     rintro e' Wa ⟨hBa, A1, c1, l', Ap1, cp1, rfl, hm, hpa, -⟩
     have h2 := h1.on hBa
     refine hK.out _ _ ?_ (fun hHeld => ?_)
     focus ((try dsimp only); exact Hold.rd3 h2; done)
     clear hK K
     (try simp only [Act.put, jA, jB, jC, jD, jE, jF])
     refine wpAnyH_ready (rs := [4, 8]) (by decide +kernel) (by simp) ?_
     refine AllReadyH.cons rfl (fun K hK => ?_) (AllReadyH.cons rfl (fun K hK => ?_) AllReadyH.nil)
     ·(try simp only [jA, jB, jC])
      go_simp
      go_at_call 10
      refine (HMK.out A1 c1 l' Ap1 cp1 _ hm hpa).mono ?_
      rintro e' Wb ⟨hBb, A2, c2, l2, Ap2, cp2, rfl, hm2, r1, r2, r3⟩
      have h3 := h2.on hBb
      have r1 := r1.base h2.1
      have r2 := RowI.base r2 h2.1
      have r3 := OwnRs.base r3 h2.1
      refine hK.out _ _ ?_ (fun hHeld => ?_)
      focus ((try dsimp only); exact Hold.rd3 h3; done)
      clear hK K
      (try simp only [Act.put, jA, jB, jC, jD, jE, jF])
      refine tZ 5 ?_; refine tZ 6 ?_; refine tZ 7 ?_
      refine wpAnyH_ready (rs := [8]) (by decide +kernel) (by simp) ?_
      refine AllReadyH.cons rfl (fun K hK => ?_) AllReadyH.nil
      have h4 := h3.new #[.slice none 0 0, .slice none 0 0] 26
      have hbah4 := (Below.refl Wb.heap.size Wb).alloc (Nat.le_refl _) (Obj.cells #[.slice none 0 0, .slice none 0 0] 26 (0, 0))
      have r1 := r1.on hbah4
      have r2 := r2.on hbah4
      have r3 := r3.on hbah4
      (try simp only [jA, jB, jC])
      go_simp
      refine hK.out _ _ ?_ (fun hHeld => ?_)
      focus ((try dsimp only); exact Hold.rd3 h4.tail; done)
      clear hK K
      (try simp only [Act.put, jA, jB, jC, jD, jE, jF])
      clear hbah4
      generalize (World.alloc _ _) = Wc at h4 r1 r2 r3 hHeld ⊢
      generalize Wb.heap.size = g7 at h4 ⊢
      obtain ⟨y0, y1⟩ := h4.pt (.head _)
      obtain ⟨z0, z1⟩ := h4.fz (.head _)
      have hog := Og.mkSet h4 r1 r2 r3
      refine wpAnyH_ready (rs := [9]) (by decide +kernel) (by simp) ?_
      refine AllReadyH.cons rfl (fun K hK => ?_) AllReadyH.nil
      (try simp only [jA, jB, jC])
      go_simp
      refine hK.out _ _ ?_ (fun hHeld => ?_)
      focus ((try dsimp only); exact Hold.rd3 hog.hold.tail; done)
      clear hK K
      (try simp only [Act.put, jA, jB, jC, jD, jE, jF])
      refine tZ 10 ?_
      refine wpAnyH_done (by decide +kernel) ?_ _
      go_wp2_with fail
      go_meet
      exact ⟨_, A2, c2, l2, Ap2, cp2, rfl, rfl, hm2, hog⟩
     ·have h3 := h2.new #[.slice none 0 0, .slice none 0 0] 26
      have hbah3 := (Below.refl Wa.heap.size Wa).alloc (Nat.le_refl _) (Obj.cells #[.slice none 0 0, .slice none 0 0] 26 (0, 0))
      have hpa := hpa.on hbah3
      (try simp only [jA, jB, jC])
      go_simp
      refine hK.out _ _ ?_ (fun hHeld => ?_)
      focus ((try dsimp only); exact Hold.rd3 h3.tail; done)
      clear hK K
      (try simp only [Act.put, jA, jB, jC, jD, jE, jF])
      clear hbah3
      generalize (World.alloc _ _) = Wb at h3 hpa hHeld ⊢
      generalize Wa.heap.size = g7 at h3 ⊢
      refine wpAnyH_ready (rs := [4]) (by decide +kernel) (by simp) ?_
      refine AllReadyH.cons rfl (fun K hK => ?_) AllReadyH.nil
      (try simp only [jA, jB, jC])
      go_simp
      go_at_call 10
      refine (HMK.out A1 c1 l' Ap1 cp1 _ hm hpa).mono ?_
      rintro e' Wc ⟨hBb, A2, c2, l2, Ap2, cp2, rfl, hm2, r1, r2, r3⟩
      have h4 := h3.on hBb
      have r1 := r1.base h3.1
      have r2 := RowI.base r2 h3.1
      have r3 := OwnRs.base r3 h3.1
      refine hK.out _ _ ?_ (fun hHeld => ?_)
      focus ((try dsimp only); exact Hold.rd3 h4.tail; done)
      clear hK K
      (try simp only [Act.put, jA, jB, jC, jD, jE, jF])
      refine tZ 5 ?_; refine tZ 6 ?_; refine tZ 7 ?_
      obtain ⟨y0, y1⟩ := h4.pt (.head _)
      obtain ⟨z0, z1⟩ := h4.fz (.head _)
      have hog := Og.mkSet h4 r1 r2 r3
      refine wpAnyH_ready (rs := [9]) (by decide +kernel) (by simp) ?_
      refine AllReadyH.cons rfl (fun K hK => ?_) AllReadyH.nil
      (try simp only [jA, jB, jC])
      go_simp
      refine hK.out _ _ ?_ (fun hHeld => ?_)
      focus ((try dsimp only); exact Hold.rd3 hog.hold.tail; done)
      clear hK K
      (try simp only [Act.put, jA, jB, jC, jD, jE, jF])
      refine tZ 10 ?_
      refine wpAnyH_done (by decide +kernel) ?_ _
      go_wp2_with fail
      go_meet
      exact ⟨_, A2, c2, l2, Ap2, cp2, rfl, rfl, hm2, hog⟩
    ·have h2 := h1.new #[.slice none 0 0, .slice none 0 0] 26
     have hbah2 := (Below.refl Wd.heap.size Wd).alloc (Nat.le_refl _) (Obj.cells #[.slice none 0 0, .slice none 0 0] 26 (0, 0))
     (try simp only [jA, jB, jC])
     go_simp
     refine hK.out _ _ ?_ (fun hHeld => ?_)
     focus ((try dsimp only); exact Hold.rd3 h2.tail; done)
     clear hK K
     (try simp only [Act.put, jA, jB, jC, jD, jE, jF])
     clear hbah2
     generalize (World.alloc _ _) = We at h2 hHeld ⊢
     generalize Wd.heap.size = g7 at h2 ⊢
     refine wpAnyH_ready (rs := [1]) (by decide +kernel) (by simp) ?_
     refine AllReadyH.cons rfl (fun K hK => ?_) AllReadyH.nil
     (try simp only [jA, jB, jC])
     go_simp
     go_at_call 11
     refine (HOW.out _ h2.1).mono ?_
     rintro e' Wf ⟨hBa, A1, c1, l', Ap1, cp1, rfl, hm, hpa, -⟩
     have h3 := h2.on hBa
     refine hK.out _ _ ?_ (fun hHeld => ?_)
     focus ((try dsimp only); exact Hold.rd3 h3.tail; done)
     clear hK K
     (try simp only [Act.put, jA, jB, jC, jD, jE, jF])
     refine wpAnyH_ready (rs := [4]) (by decide +kernel) (by simp) ?_
     refine AllReadyH.cons rfl (fun K hK => ?_) AllReadyH.nil
     (try simp only [jA, jB, jC])
     go_simp
     go_at_call 10
     refine (HMK.out A1 c1 l' Ap1 cp1 _ hm hpa).mono ?_
     rintro e' Wg ⟨hBb, A2, c2, l2, Ap2, cp2, rfl, hm2, r1, r2, r3⟩
     have h4 := h3.on hBb
     have r1 := r1.base h3.1
     have r2 := RowI.base r2 h3.1
     have r3 := OwnRs.base r3 h3.1
     refine hK.out _ _ ?_ (fun hHeld => ?_)
     focus ((try dsimp only); exact Hold.rd3 h4.tail; done)
     clear hK K
     (try simp only [Act.put, jA, jB, jC, jD, jE, jF])
     refine tZ 5 ?_; refine tZ 6 ?_; refine tZ 7 ?_
     obtain ⟨y0, y1⟩ := h4.pt (.head _)
     obtain ⟨z0, z1⟩ := h4.fz (.head _)
     have hog := Og.mkSet h4 r1 r2 r3
     refine wpAnyH_ready (rs := [9]) (by decide +kernel) (by simp) ?_
     refine AllReadyH.cons rfl (fun K hK => ?_) AllReadyH.nil
     (try simp only [jA, jB, jC])
     go_simp
     refine hK.out _ _ ?_ (fun hHeld => ?_)
     focus ((try dsimp only); exact Hold.rd3 hog.hold.tail; done)
     clear hK K
     (try simp only [Act.put, jA, jB, jC, jD, jE, jF])
     refine tZ 10 ?_
     refine wpAnyH_done (by decide +kernel) ?_ _
     go_wp2_with fail
     go_meet
     exact ⟨_, A2, c2, l2, Ap2, cp2, rfl, rfl, hm2, hog⟩
  case rest =>
   clear HOW HMK
   obtain ⟨g7, A2, c2, l2, Ap2, cp2, rfl, rfl, hm2, hog⟩ := hcut
   generalize hWc : wc = W4 at *
   clear hWc
   by_cases hz : er = 0
   ·obtain ⟨ho, hP, hqs, hQ⟩ := HOK.out hz
    subst hz
    subst ho
    have hm3 := hm2.trans hqs
    have hlen : l2.length = l.length := by
     have := congrArg List.length hm3
     rwa [List.length_map, List.length_map, List.length_map] at this
    rw [hlen] at hog
    have hl64 : l.length ≤ 64 := by
     have := HSM.out.2
     rwa [hqs, List.length_map, List.length_map] at this
    have ho128 := HSM.out.1
    have HPQ : Hid (∀ W, Below W4.heap.size W4 W → PlanAt W o A2 c2 l2 Ap2 cp2) := fun W hb => (hog.on hb).plan hlen.symm (by omega) (HRG.out l2 hm2)
    have hownq : ∀ x ∈ l2, x.par.own.size ≤ maxLen := fun x hx => by
     have hm : x.par ∈ (l.map PV.par).map (fun x => nmP (bmP p q x)) := by rw [← hm3]; exact List.mem_map_of_mem hx
     obtain ⟨y, hy, e⟩ := List.mem_map.1 hm
     obtain ⟨z, hz, rfl⟩ := List.mem_map.1 hy
     rw [← e]
     exact HOWN.out z hz
    have HCK : Hid (∀ W, Below W4.heap.size W4 W → Calls Tryz.prog 18 #[.agg #[.slice A2 o.length c2, .slice Ap2 l.length cp2]] W fun e' w' => e' = .returned (.bool true) ∧ Below W.heap.size W w') := fun W hb => by
     have hx := ref_chk o A2 c2 l2 Ap2 cp2 (by omega) (by omega) hownq W (HPQ.out W hb).prs (HPQ.out W hb).out
     rw [chkQ_of, hm3, (chkQ_iff _ _).2 hQ, hlen] at hx
     exact hx
    have HP4 : Hid (∀ W, Below W4.heap.size W4 W → PlanAt W o Ao co l Ap cp) := fun W hb => HPL.out W (hog.on hb).hold.1
    have HSO : Hid (∀ W, Below W4.heap.size W4 W → Calls Tryz.prog 19 #[.slice Ao o.length co, .slice A2 o.length c2] W fun e' w' => e' = .returned (.bool true) ∧ Below W.heap.size W w') := fun W hb => by
     have hx := ref_same o o Ao A2 co c2 (by unfold maxLen; omega) W (HP4.out W hb).out (HPQ.out W hb).out
     rw [decide_eq_true rfl] at hx
     exact hx
    have HSS := Lib.hid (sm_same hP hQ)
    have HOUT := Lib.hid (fun (x : Par) (hx : x ∈ l.map PV.par) (hp : p ∉ x.ring) => sm_out (q := q) hP hx hp)
    have HLA := Lib.hid (smA_lim (p := p) hP)
    have HLB := Lib.hid (smB_lim hQ)
    have HPE := Lib.hid hP.each
    have HQE := Lib.hid hQ.each
    have HM3 := Lib.hid hm3
    have HOG4 : Hid (∀ K W, Hold W4 K W → (W.cell? ⟨g7, 0, none⟩ = some (.slice A2 o.length c2) ∧ W.cell? ⟨g7, 1, none⟩ = some (.slice Ap2 l.length cp2)) ∧ (W.cell? ⟨g4, 0, none⟩ = some (.int .i64 p.1) ∧ W.cell? ⟨g4, 1, none⟩ = some (.int .i64 p.2)) ∧ (W.cell? ⟨g3, 0, none⟩ = some (.slice Ao o.length co) ∧ W.cell? ⟨g3, 1, none⟩ = some (.slice Ap l.length cp))) := fun K W hh => by
     have h1 := (hog.on hh.1).hold
     exact ⟨h1.pt (.head _), h1.pt (.tail _ (.tail _ (.head _))), h1.pt (.tail _ (.tail _ (.tail _ (.head _))))⟩
    have HEND : Hid (∀ K W, Hold W4 K W → Below w.heap.size w W) := fun K W hh => (hog.on hh.1).hold.1
    have HZ := Hold.refl W4
    have HL64 := Lib.hid hl64
    clear HBAD HOK HPL HOWN HRG HSM hP hQ hqs hm2 hm3 hownq hog ho128 hl64
    have h13 := (HZ.new #[.int .i64 0, .int .u64 0] 41).new' #[.int .i64 0, .int .u64 0] 41 (n := W4.heap.size + 1) (by simp)
    go_upto_region 7 with (fail)
    generalize (World.alloc _ _) = W7 at h13 ⊢
    generalize W4.heap.size + 1 = g10 at h13 ⊢
    generalize W4.heap.size = g9 at h13 ⊢
    obtain ⟨⟨c0, c1⟩, -, c4, c5⟩ := HOG4.out _ _ h13
    have HQ7 := Lib.hid h13
    clear h13
    go_wp2_with fail
    go_at_call 18
    refine (HCK.out _ HQ7.out.1).mono ?_
    rintro e' W8 ⟨rfl, hB⟩
    have h14 := HQ7.out.on hB
    clear c0 c1 c4 c5 hB
    obtain ⟨⟨c0, c1⟩, -, c4, c5⟩ := HOG4.out _ _ h14
    have HQ8 := Lib.hid h14
    clear h14
    go_wp2_with fail
    go_at_call 19
    refine (HSO.out _ HQ8.out.1).mono ?_
    rintro e' W9 ⟨rfl, hB⟩
    have h15 := HQ8.out.on hB
    clear c0 c1 c4 c5 hB HCK HSO
    have e1 : hiOf (sumL (smA p) ((l.map PV.par).take 0)) = 0 := by rw [List.take_zero]; show hiOf 0 = 0; decide
    have e2 : loOf (sumL (smA p) ((l.map PV.par).take 0)) = 0 := by rw [List.take_zero]; show loOf 0 = 0; decide
    have e3 : hiOf (sumL (smB p q) ((l.map PV.par).take 0)) = 0 := by rw [List.take_zero]; show hiOf 0 = 0; decide
    have e4 : loOf (sumL (smB p q) ((l.map PV.par).take 0)) = 0 := by rw [List.take_zero]; show loOf 0 = 0; decide
    have h16 : Hold W4 [(g10, #[.int .i64 (hiOf (sumL (smB p q) ((l.map PV.par).take 0))), .int .u64 (loOf (sumL (smB p q) ((l.map PV.par).take 0)))], 41), (g9, #[.int .i64 (hiOf (sumL (smA p) ((l.map PV.par).take 0))), .int .u64 (loOf (sumL (smA p) ((l.map PV.par).take 0)))], 41)] W9 := by rw [e1, e2, e3, e4]; exact h15
    clear e1 e2 e3 e4 h15
    go_wp2_with fail
    go_loopg [11] l.length (fun g i wr => ∃ k : Nat, k ≤ l.length ∧ g = l.length - k ∧ i = .int .i64 k ∧ Hold W4 [(g10, #[.int .i64 (hiOf (sumL (smB p q) ((l.map PV.par).take k))), .int .u64 (loOf (sumL (smB p q) ((l.map PV.par).take k)))], 41), (g9, #[.int .i64 (hiOf (sumL (smA p) ((l.map PV.par).take k))), .int .u64 (loOf (sumL (smA p) ((l.map PV.par).take k)))], 41)] wr)
    case atStart => exact ⟨0, Nat.zero_le _, rfl, rfl, h16⟩
    case round =>
     clear h16
     obtain ⟨k, hk, hgk, rfl, HB⟩ := hrel
     have HGK := Lib.hid hgk
     clear hgk
     obtain ⟨⟨-, c1⟩, ⟨d0, d1⟩, -, c5⟩ := HOG4.out _ _ HB
     by_cases hlt : k < l.length
     ·have hlt2 : k < l2.length := by omega
      obtain ⟨ad, hA, -⟩ := (HP4.out _ HB.1).prs.at hlt
      obtain ⟨ad2, hA2, -⟩ := (HPQ.out _ HB.1).prs.at hlt2
      have HW : Hid (∀ W, Below wr.heap.size wr W → Hold W4 [(g10, #[.int .i64 (hiOf (sumL (smB p q) ((l.map PV.par).take k))), .int .u64 (loOf (sumL (smB p q) ((l.map PV.par).take k)))], 41), (g9, #[.int .i64 (hiOf (sumL (smA p) ((l.map PV.par).take k))), .int .u64 (loOf (sumL (smA p) ((l.map PV.par).take k)))], 41)] W) := fun W hb => HB.on hb
      have HDX := Lib.hid (fun W (hb : Below wr.heap.size wr W) => Prs.cells hA (HP4.out W (HW.out W hb).1).prs (List.getElem?_eq_getElem hlt) (Below.refl _ W))
      have HDY := Lib.hid (fun W (hb : Below wr.heap.size wr W) => Prs.cells hA2 (HPQ.out W (HW.out W hb).1).prs (List.getElem?_eq_getElem hlt2) (Below.refl _ W))
      have hmx := List.mem_map_of_mem (f := PV.par) (List.getElem_mem hlt)
      have hmy := List.mem_map_of_mem (f := PV.par) (List.getElem_mem hlt2)
      rw [HM3.out] at hmy
      have hnx := HPE.out _ hmx
      have hny : NormP l2[k].par.ring := HQE.out _ hmy
      have hy : l2[k].par = nmP (bmP p q l[k].par) := by
       have h1 := List.getElem_of_eq HM3.out (i := k) (by rw [List.length_map]; exact hlt2)
       rw [List.getElem_map, List.getElem_map, List.getElem_map] at h1
       exact h1
      have HIN := Lib.hid (fun W (hb : Below wr.heap.size wr W) => ref_in l[k].par.ring l[k].A l[k].cap p (by have := (normP_small hnx).2.1; omega) W ((HP4.out W (HW.out W hb).1).prs.2 _ (List.getElem_mem hlt)).1)
      have HSP : Hid (p ∉ l[k].par.ring → ∀ W, Below wr.heap.size wr W → Calls Tryz.prog 21 #[.agg #[.int .i64 l[k].par.id, .slice l[k].A l[k].par.ring.length l[k].cap, .string l[k].par.own], .agg #[.int .i64 l2[k].par.id, .slice l2[k].A l2[k].par.ring.length l2[k].cap, .string l2[k].par.own]] W fun e w' => e = .returned (.bool true) ∧ Below W.heap.size W w') := fun hp W hb => by
       have hx := ref_samePar l[k].par.id l[k].par.ring l[k].par.own l[k].A l[k].cap l2[k].par.id l2[k].par.ring l2[k].par.own l2[k].A l2[k].cap (by have := (normP_small hnx).2.1; unfold maxLen; omega) W ((HP4.out W (HW.out W hb).1).prs.2 _ (List.getElem_mem hlt)).1 ((HPQ.out W (HW.out W hb).1).prs.2 _ (List.getElem_mem hlt2)).1
       rw [show decide ((⟨l[k].par.id, l[k].par.ring, l[k].par.own⟩ : Par) = ⟨l2[k].par.id, l2[k].par.ring, l2[k].par.own⟩) = true from decide_eq_true (by
        show l[k].par = l2[k].par
        rw [hy, HOUT.out _ hmx hp])] at hx
       exact hx
      have HRX := Lib.hid (fun W (hb : Below wr.heap.size wr W) => ref_area_good l[k].par.ring l[k].A l[k].cap (normP_small hnx).1 W ((HP4.out W (HW.out W hb).1).prs.2 _ (List.getElem_mem hlt)).1)
      have HRY := Lib.hid (fun W (hb : Below wr.heap.size wr W) => ref_area_good l2[k].par.ring l2[k].A l2[k].cap (normP_small hny).1 W ((HPQ.out W (HW.out W hb).1).prs.2 _ (List.getElem_mem hlt2)).1)
      have HSTA : Hid ((sumL (smA p) ((l.map PV.par).take (k + 1))) = (sumL (smA p) ((l.map PV.par).take k)) + (if p ∈ l[k].par.ring then area l[k].par.ring else 0)) := by
       unfold Hid
       rw [List.take_succ_eq_append_getElem (by rw [List.length_map]; exact hlt), sumL_append, List.getElem_map]
       simp [sumL, smA]
      have HSTB : Hid ((sumL (smB p q) ((l.map PV.par).take (k + 1))) = (sumL (smB p q) ((l.map PV.par).take k)) + (if p ∈ l[k].par.ring then area l2[k].par.ring else 0)) := by
       unfold Hid
       rw [List.take_succ_eq_append_getElem (by rw [List.length_map]; exact hlt), sumL_append, List.getElem_map, hy]
       simp [sumL, smB]
      have HLS : Hid ((InR (sumL (smA p) ((l.map PV.par).take k)) ∧ InR (area l[k].par.ring) ∧ InR ((sumL (smA p) ((l.map PV.par).take k)) + area l[k].par.ring)) ∧ InR (sumL (smB p q) ((l.map PV.par).take k)) ∧ InR (area l2[k].par.ring) ∧ InR ((sumL (smB p q) ((l.map PV.par).take k)) + area l2[k].par.ring)) := by
       have h1 := HLA.out k (by rw [List.length_map]; omega)
       have h2 := HLB.out k (by rw [List.length_map]; omega)
       have h3 := area_lim hnx.1
       have h4 := area_lim (r := l2[k].par.ring) hny.1
       have h5 := HL64.out
       unfold Hid InR
       generalize (sumL (smA p) ((l.map PV.par).take k)) = s at *
       generalize (sumL (smB p q) ((l.map PV.par).take k)) = t at *
       generalize area l[k].par.ring = ax at *
       generalize area l2[k].par.ring = ay at *
       omega
      have b2 : (0 : Int) ≤ (k : Int) := by omega
      have b3 : (k : Int) < (l.length : Int) := by omega
      have b4 : (l.length : Int) ≤ 64 := by have := HL64.out; omega
      have hsz : l[k].par.ring.length ≤ 128 := (normP_small hnx).2.1
      subst hA
      subst hA2
      have HK12 : Hid (∀ W, Below wr.heap.size wr W → W.cell? ⟨g3, 1, none⟩ = some (.slice (some ad) l.length cp) ∧ W.cell? ⟨(ad.add (k * 3)).block, (ad.add (k * 3)).off + 1, none⟩ = some (.slice l[k].A l[k].par.ring.length l[k].cap) ∧ W.cell? ⟨g4, 0, none⟩ = some (.int .i64 p.1) ∧ W.cell? ⟨g4, 1, none⟩ = some (.int .i64 p.2)) := fun W hb => by
       obtain ⟨-, ⟨x0, x1⟩, -, x2⟩ := HOG4.out _ _ (HW.out W hb)
       exact ⟨x2, (HDX.out W hb).2.1, x0, x1⟩
      have HK13 : Hid (∀ W, Below wr.heap.size wr W → W.cell? ⟨g3, 1, none⟩ = some (.slice (some ad) l.length cp) ∧ W.cell? ⟨g7, 1, none⟩ = some (.slice (some ad2) l.length cp2) ∧ (W.cell? (ad.add (k * 3)) = some (.int .i64 l[k].par.id) ∧ W.cell? ⟨(ad.add (k * 3)).block, (ad.add (k * 3)).off + 1, none⟩ = some (.slice l[k].A l[k].par.ring.length l[k].cap) ∧ W.cell? ⟨(ad.add (k * 3)).block, (ad.add (k * 3)).off + 2, none⟩ = some (.string l[k].par.own)) ∧ W.cell? (ad2.add (k * 3)) = some (.int .i64 l2[k].par.id) ∧ W.cell? ⟨(ad2.add (k * 3)).block, (ad2.add (k * 3)).off + 1, none⟩ = some (.slice l2[k].A l2[k].par.ring.length l2[k].cap) ∧ W.cell? ⟨(ad2.add (k * 3)).block, (ad2.add (k * 3)).off + 2, none⟩ = some (.string l2[k].par.own)) := fun W hb => by
       obtain ⟨⟨-, x1⟩, -, -, x2⟩ := HOG4.out _ _ (HW.out W hb)
       exact ⟨x2, x1, HDX.out W hb, HDY.out W hb⟩
      clear HDX HDY hmx hmy hnx hny hy
      generalize l[k].par.ring = xr at *
      generalize l[k].par.id = xi at *
      generalize l[k].par.own = xo at *
      generalize l[k].A = xA at *
      generalize l[k].cap = xc at *
      generalize l2[k].par.ring = yr at *
      generalize l2[k].par.id = yi at *
      generalize l2[k].par.own = yo at *
      generalize l2[k].A = yA at *
      generalize l2[k].cap = yc at *
      generalize hsa : (sumL (smA p) ((l.map PV.par).take k)) = sa at *
      generalize hsb : (sumL (smB p q) ((l.map PV.par).take k)) = sb at *
      have HBR := Lib.hid (Below.refl wr.heap.size wr)
      have HBD : Hid (Below wr.heap.size wr wr.drew) := ⟨rfl, rfl, rfl, Nat.le_refl _, fun _ _ => rfl⟩
      clear HB HPE HQE HLA HLB HPQ HP4
      go_upto_region 12 with (fail)
      clear c1 c5 d0 d1
      go_region_held3 (fun W => W.cell? ⟨g3, 1, none⟩ = some (.slice (some ad) l.length cp) ∧ W.cell? ⟨(ad.add (k * 3)).block, (ad.add (k * 3)).off + 1, none⟩ = some (.slice xA xr.length xc) ∧ W.cell? ⟨g4, 0, none⟩ = some (.int .i64 p.1) ∧ W.cell? ⟨g4, 1, none⟩ = some (.int .i64 p.2)) (first | exact HK12.out _ HBR.out | exact HK12.out _ HBD.out | exact HK12.out _ (Hid.out (by assumption))) ((first
       |(go_at_call 20; (with_reducible refine (HIN.out _ (by first | exact HBD.out | exact HBR.out)).mono ?_); rintro e' Wi ⟨n, rfl, hpl, hBi⟩; have HBI : Hid (Below wr.heap.size wr Wi) := (by first | exact HBD.out.trans hBi | exact HBR.out.trans hBi))))
      by_cases hm : p ∈ xr
      ·have hnn := plc_pos hpl hm
       have hj := posL_lt hm
       subst hnn
       have RA := rim_add HLS.out.1.1 HLS.out.1.2.1 HLS.out.1.2.2
       have RB := rim_add HLS.out.2.1 HLS.out.2.2.1 HLS.out.2.2.2
       rw [if_pos hm] at HSTA HSTB
       clear hpl hm HLS HSP
       generalize posL xr p = j at *
       have b5 : (0 : Int) ≤ (j : Int) := by omega
       have b6 : (j : Int) < (xr.length : Int) := by omega
       have e0 : decide ((j : Int) < 0) = false := decide_eq_false (by omega)
       obtain ⟨x0, x1, -, -⟩ := HK12.out _ HBI.out
       go_wp2_with fail
       go_at_call 22
       refine (HRX.out _ HBI.out).mono ?_
       rintro e' W11 ⟨rfl, hB⟩
       have hb11 := HBI.out.trans (hB.mono HBI.out.size)
       have HB12 := Lib.hid (hb11.alloc hb11.size (Obj.cells #[.int .i64 (hiOf (area xr)), .int .u64 (loOf (area xr))] 41 (0, 0)))
       have h20 := (HW.out _ hb11).new #[.int .i64 (hiOf (area xr)), .int .u64 (loOf (area xr))] 41
       clear x0 x1 hB hb11 HIN HRX HK12
       generalize hax : area xr = ax at *
       go_upto_region 16 with (fail)
       generalize (World.alloc _ _) = W12 at h20 HB12 ⊢
       generalize W11.heap.size = g12 at h20 ⊢
       obtain ⟨-, x1, -, -, x2, -⟩ := HK13.out _ HB12.out
       have HQ12 := Lib.hid h20
       clear h20
       go_wp2_with fail
       go_at_call 22
       refine (HRY.out _ HB12.out).mono ?_
       rintro e' W13 ⟨rfl, hB⟩
       have h21 := (HQ12.out.on hB).new #[.int .i64 (hiOf (area yr)), .int .u64 (loOf (area yr))] 41
       clear x1 x2 hB HK13 HRY HQ12 HW HB12 HBI HBD HBR
       generalize hay : area yr = ay at *
       go_upto_region 17 with (fail)
       generalize (World.alloc _ _) = W14 at h21 ⊢
       generalize W13.heap.size = g14 at h21 ⊢
       obtain ⟨z0, z1⟩ := h21.pt (.tail _ (.tail _ (.tail _ (.head _))))
       obtain ⟨z2, z3⟩ := h21.pt (.tail _ (.head _))
       have HQ14 := Lib.hid h21
       clear h21
       go_wp2_with fail
       go_at_call 23
       refine (RA.out _).mono ?_
       rintro e' W15 ⟨rfl, hB⟩
       have h22 := HQ14.out.on hB
       clear z0 z1 z2 z3 hB HQ14
       obtain ⟨z0, z1⟩ := h22.pt (.tail _ (.tail _ (.tail _ (.head _))))
       obtain ⟨f0, f1⟩ := h22.fz (.tail _ (.tail _ (.tail _ (.head _))))
       have h23 : Hold W4 [(g14, #[.int .i64 (hiOf ay), .int .u64 (loOf ay)], 41), (g12, #[.int .i64 (hiOf ax), .int .u64 (loOf ax)], 41), (g10, #[.int .i64 (hiOf sb), .int .u64 (loOf sb)], 41), (g9, #[.int .i64 (hiOf (sa + ax)), .int .u64 (loOf (sa + ax))], 41)] ((W15.setCell ⟨g9, 0, none⟩ (.int .i64 (hiOf (sa + ax)))).setCell ⟨g9, 1, none⟩ (.int .u64 (loOf (sa + ax)))) := Hold.put (L1 := [_, _, _]) (Hold.put (L1 := [_, _, _]) h22 0 (.int .i64 (hiOf (sa + ax)))) 1 (.int .u64 (loOf (sa + ax)))
       clear h22
       go_upto_region 18 with (fail)
       generalize (World.setCell _ _ _) = W16 at h23 ⊢
       clear z0 z1 f0 f1
       obtain ⟨z0, z1⟩ := h23.pt (.tail _ (.tail _ (.head _)))
       obtain ⟨z2, z3⟩ := h23.pt (.head _)
       have HQ16 := Lib.hid h23
       clear h23
       go_wp2_with fail
       go_at_call 23
       refine (RB.out _).mono ?_
       rintro e' W17 ⟨rfl, hB⟩
       have h24 := (HQ16.out.on hB).tail.tail
       clear z0 z1 z2 z3 hB HQ16
       obtain ⟨z0, z1⟩ := h24.pt (.head _)
       obtain ⟨f0, f1⟩ := h24.fz (.head _)
       have HFIN := Lib.hid (h24.set2 (.int .i64 (hiOf (sb + ay))) (.int .u64 (loOf (sb + ay))))
       clear h24
       go_wp2
       go_roundg (l.length - (k + 1))
       case measure => have := HGK.out; omega
       case rel => exact ⟨k + 1, by omega, rfl, by go_num, by rw [HSTA.out, HSTB.out]; exact HFIN.out⟩
      ·obtain rfl := plc_no hpl hm
       have HSQ := Lib.hid (HSP.out hm)
       rw [if_neg hm, Int.add_zero] at HSTA HSTB
       have HBW : Hid (Below wr.heap.size wr Wi.drew) := HBI.out.trans ⟨rfl, rfl, rfl, Nat.le_refl _, fun _ _ => rfl⟩
       clear hm hpl HSP HLS HIN HRX HRY HK12
       go_upto_region 13 with (fail)
       go_region_held3 (fun W => W.cell? ⟨g3, 1, none⟩ = some (.slice (some ad) l.length cp) ∧ W.cell? ⟨g7, 1, none⟩ = some (.slice (some ad2) l.length cp2) ∧ (W.cell? (ad.add (k * 3)) = some (.int .i64 xi) ∧ W.cell? ⟨(ad.add (k * 3)).block, (ad.add (k * 3)).off + 1, none⟩ = some (.slice xA xr.length xc) ∧ W.cell? ⟨(ad.add (k * 3)).block, (ad.add (k * 3)).off + 2, none⟩ = some (.string xo)) ∧ W.cell? (ad2.add (k * 3)) = some (.int .i64 yi) ∧ W.cell? ⟨(ad2.add (k * 3)).block, (ad2.add (k * 3)).off + 1, none⟩ = some (.slice yA yr.length yc) ∧ W.cell? ⟨(ad2.add (k * 3)).block, (ad2.add (k * 3)).off + 2, none⟩ = some (.string yo)) (first | exact HK13.out _ HBI.out | exact HK13.out _ HBW.out | exact HK13.out _ (Hid.out (by assumption))) ((first
        |(go_at_call 21; (with_reducible refine (HSQ.out _ (by first | exact HBW.out | exact HBI.out)).mono ?_); rintro e' Wj ⟨rfl, hBj⟩; have HBJ : Hid (Below wr.heap.size wr Wj) := (by first | exact HBW.out.trans (hBj.mono HBW.out.size) | exact HBI.out.trans (hBj.mono HBI.out.size)))))
       have HFIN : Hid (Hold W4 [(g10, #[.int .i64 (hiOf (sumL (smB p q) ((l.map PV.par).take (k + 1)))), .int .u64 (loOf (sumL (smB p q) ((l.map PV.par).take (k + 1))))], 41), (g9, #[.int .i64 (hiOf (sumL (smA p) ((l.map PV.par).take (k + 1)))), .int .u64 (loOf (sumL (smA p) ((l.map PV.par).take (k + 1))))], 41)] Wj) := by
        unfold Hid
        rw [HSTA.out, HSTB.out]
        exact HW.out _ HBJ.out
       go_wp2_with fail
       go_roundg (l.length - (k + 1))
       case measure => have := HGK.out; omega
       case rel => exact ⟨k + 1, by omega, rfl, by go_num, HFIN.out⟩
     ·obtain rfl : k = l.length := by omega
      have HSUM : Hid ((sumL (smA p) ((l.map PV.par).take (l.length))) = (sumL (smB p q) ((l.map PV.par).take (l.length)))) := by
       unfold Hid
       have : (l.map PV.par).take l.length = l.map PV.par := List.take_of_length_le (by rw [List.length_map]; exact Nat.le_refl _)
       rw [this]
       exact HSS.out
      rw [HSUM.out] at HB
      generalize (sumL (smB p q) ((l.map PV.par).take (l.length))) = sf at *
      have b0 : ¬ ((l.length : Int) < (l.length : Int)) := by omega
      obtain ⟨t0, t1⟩ := HB.pt (.head _)
      obtain ⟨t2, t3⟩ := HB.pt (.tail _ (.head _))
      have HE := Lib.hid (HEND.out _ _ HB)
      clear HB
      go_wp2
      go_ret
      exact ⟨rfl, HG3.out ▸ HE.out⟩
   ·obtain ⟨ho, hq⟩ := HBAD.out hz
    have hl2 : l2 = [] := by
     rw [hq] at hm2
     exact List.map_eq_nil_iff.1 hm2
    have hx := hog.plan rfl (by rw [ho]; exact Nat.zero_le _) (fun x hx => by rw [hl2] at hx; cases hx)
    have HSB : Hid (Calls Tryz.prog 13 #[.agg #[.slice A2 on.length c2, .slice Ap2 l2.length cp2], .agg #[.slice none 0 0, .slice none 0 0]] W4 fun e' w' => e' = .returned (.bool true) ∧ Below W4.heap.size W4 w') := by
     have hy := ref_samePlan on [] A2 c2 l2 Ap2 cp2 none 0 [] none 0 (by rw [ho]; exact Nat.zero_le _) (by rw [hl2]; exact Nat.zero_le _) W4 hx.prs ⟨Items.nil _ _ _ _, fun x hx => nomatch hx⟩ hx.out (fun hp => absurd hp (by simp))
     rw [show decide (on = [] ∧ l2.map PV.par = ([] : List PV).map PV.par) = true from decide_eq_true ⟨ho, by rw [hl2]⟩] at hy
     exact hy
    obtain ⟨c0, c1⟩ := hog.hold.pt (.head _)
    have HB := Lib.hid hog.hold.1
    have e0 : (er == 0) = false := by simpa using hz
    have f0 : ¬ er = 0 := hz
    clear hx ho hq hl2 hm2 hog HPL HOK HBAD HRG HSM hz HOWN
    go_wp2_with (go_at_call 13; go_must (refine HSB.out.mono ?_; rintro e' W8 ⟨rfl, hB⟩; have HB8 := Lib.hid (HB.out.trans (hB.mono HB.out.size)); clear hB))
    go_ret
    exact ⟨rfl, HG3.out ▸ HB8.out⟩
end Go.Proofs.YtfjfmieadedjoaaGreat
