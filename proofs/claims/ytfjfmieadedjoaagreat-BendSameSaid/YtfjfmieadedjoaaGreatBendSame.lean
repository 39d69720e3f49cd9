/- Plain: a corner that is put or cleared on a stretch changes no area, and no side. -/
import Derived.Test.YtfjfmieadedjoaaGreatBendMoves
namespace Go.Proofs.YtfjfmieadedjoaaGreat
open Go.RowKit
theorem rot_same (r : List (Int × Int)) {k : Nat} (hk : k ≤ r.length) : (area (r.drop k ++ r.take k) = area r ∧ (Sound (r.drop k ++ r.take k) ↔ Sound r) ∧ ∀ q, side (r.drop k ++ r.take k) q = side r q) ∧ ∀ i, nx (r.drop k ++ r.take k) i = nx r (i + k) := by
 rcases Nat.lt_or_ge k r.length with h | h
 ·have hl : (r.drop k ++ r.take k).length = r.length := by rw [List.length_append, List.length_drop, List.length_take]; omega
  exact ⟨begins k hl (nx_dt h), nx_dt h⟩
 ·obtain rfl : k = r.length := by omega
  have e : r.drop r.length ++ r.take r.length = r := by simp
  rw [e]
  exact ⟨⟨rfl, Iff.rfl, fun _ => rfl⟩, fun i => (nx_per r i).symm⟩
theorem clear_keeps {r : List (Int × Int)} {p : Int × Int} (hs : Sound r) (hp : p ∈ r) (hon : onB (pvR r p) (scR r p) p = true) (hs' : Sound (repL r p [])) : area (repL r p []) = area r ∧ ∀ q, side (repL r p []) q = side r q := by
 have hk := posL_lt hp
 have hpn := pos_nx hp
 have e1 : repL r p [] = r.take (posL r p) ++ r.drop (posL r p + 1) := by rw [repL_in hp, List.append_nil]
 have hsplit : r.take (posL r p + 1) = r.take (posL r p) ++ [p] := by
  rw [List.take_succ_eq_append_getElem hk, ← nx_lt hk, hpn]
 obtain ⟨⟨a1, a2, a3⟩, a4⟩ := rot_same r (k := posL r p + 1) (by omega)
 have hkl : posL r p ≤ (repL r p []).length := by rw [e1, List.length_append, List.length_take]; omega
 obtain ⟨⟨b1, b2, b3⟩, b4⟩ := rot_same (repL r p []) hkl
 have ed : (repL r p []).drop (posL r p) = r.drop (posL r p + 1) := by
  rw [e1, List.drop_append_of_le_length (by rw [List.length_take]; omega)]
  rw [List.drop_eq_nil_of_le (by rw [List.length_take]; omega), List.nil_append]
 have et : (repL r p []).take (posL r p) = r.take (posL r p) := by
  rw [e1, List.take_append_of_le_length (by rw [List.length_take]; omega), List.take_take, Nat.min_self]
 rw [ed, et] at b1 b2 b3 b4
 rw [hsplit, ← List.append_assoc] at a1 a2 a3 a4
 have hln : (r.drop (posL r p + 1) ++ r.take (posL r p)).length + 1 = r.length := by rw [List.length_append, List.length_drop, List.length_take]; omega
 have hsl := hs.1
 generalize hS : r.drop (posL r p + 1) ++ r.take (posL r p) = s at *
 have hss : Sound s := b2.2 hs'
 have n0 : 0 < s.length := by omega
 have f1 : nx s (s.length - 1) = pvR r p := by
  have h1 : nx (s ++ [p]) (s.length - 1) = nx s (s.length - 1) := by
   rw [nx_lt (r := s ++ [p]) (by simp; try omega), nx_lt (r := s) (by omega), List.getElem_append_left]
  rw [← h1, a4]
  unfold pvR
  congr 1
  omega
 have f2 : nx s (s.length - 1 + 1) = scR r p := by
  have h1 : nx (s ++ [p]) 0 = nx s 0 := by
   rw [nx_lt (r := s ++ [p]) (by simp; try omega), nx_lt (r := s) (by omega), List.getElem_append_left]
  rw [show s.length - 1 + 1 = 0 + s.length by omega, nx_per, ← h1, a4]
  unfold scR
  congr 1
  omega
 have hi : Ins (nx s (s.length - 1)) (nx s (s.length - 1 + 1)) p := by
  rw [f1, f2]
  exact ⟨onB_iff.1 hon, (edg_ne hs (pv_edge hp)).symm, edg_ne hs (sc_edge hp)⟩
 have hm : mark s (s.length - 1) p = s ++ [p] := by
  unfold mark
  rw [show s.length - 1 + 1 = s.length by omega, List.take_length, List.drop_length, List.append_nil]
 have hpc := putC_at hss (k := s.length - 1) (by omega) hi
 rw [hm] at hpc
 obtain ⟨c1, -, c3⟩ := putC_sound hss p
 rw [hpc] at c1 c3
 exact ⟨by rw [← b1, ← c1, a1], fun q => by rw [← b3 q, ← c3 q, a3 q]⟩
theorem nm_keeps {r : List (Int × Int)} (h : chE r = 0) : area (nmL r) = area r ∧ ∀ q, side (nmL r) q = side r q := by
 have h3 := (chE_zero.1 h).2.1
 rw [nmL_eq h]
 obtain ⟨h1, -, h2⟩ := begins (r := r) (s := rotL r (leastI r r.length)) (leastI r r.length) (rotL_length _ _) (fun i => nx_rotL _ _ _ (by omega))
 exact ⟨h1, h2⟩
def LandEq (ps qs : List Par) : Prop := qs.length = ps.length ∧ ∀ k (h : k < ps.length) (h' : k < qs.length), qs[k].id = ps[k].id ∧ area qs[k].ring = area ps[k].ring ∧ (∀ q, side qs[k].ring q = side ps[k].ring q)
theorem mark_land {o : List (Int × Int)} {ps : List Par} {p : Int × Int} (hP : PlanQ o ps) : LandEq ps (ps.map (ptP p)) := ⟨List.length_map _, fun k h h' => by
 rw [List.getElem_map]
 have hs := (chE_zero.1 (normP_iff.1 (hP.each _ (List.getElem_mem h))).1).2
 obtain ⟨h1, -, h3⟩ := putC_sound hs p
 exact ⟨rfl, h1, h3⟩⟩
theorem clear_land {o : List (Int × Int)} {ps : List Par} {p : Int × Int} (hP : PlanQ o ps) (hc : cB ps p = true) (hi : idlB (ringsQ ps) p = true) (hQ : PlanQ (nmL (repL o p [])) (ps.map fun x => nmP (clP p x))) : LandEq ps (ps.map fun x => nmP (clP p x)) := ⟨List.length_map _, fun k h h' => by
 rw [List.getElem_map]
 have hx := List.getElem_mem h
 have hs := (chE_zero.1 (normP_iff.1 (hP.each _ hx)).1).2
 have hch : chE (repL ps[k].ring p []) = 0 := nm_sound (hQ.each _ (List.mem_map_of_mem hx))
 obtain ⟨h1, h2⟩ := nm_keeps hch
 refine ⟨rfl, ?_⟩
 show area (nmL (repL ps[k].ring p [])) = _ ∧ ∀ q, side (nmL (repL ps[k].ring p [])) q = _
 by_cases hp : p ∈ ps[k].ring
 ·obtain ⟨x, hx', hpx⟩ := cB_iff.1 hc
  have hd := (idle_doc hP.fit ⟨_, List.mem_map_of_mem hx', hpx⟩).1 hi
  have hr : ps[k].ring ∈ o :: ringsQ ps := List.mem_cons_of_mem _ (List.mem_map_of_mem hx)
  have hon := (hd _ hr _ hr hp hp).1
  obtain ⟨h3, h4⟩ := clear_keeps hs hp hon (chE_zero.1 hch).2
  exact ⟨h1.trans h3, fun q => (h2 q).trans (h4 q)⟩
 ·rw [repL_out hp] at h1 h2 ⊢
  exact ⟨h1, h2⟩⟩
end Go.Proofs.YtfjfmieadedjoaaGreat

namespace Go.Proofs.YtfjfmieadedjoaaGreat
open Go.RowKit
def OkQ (o : List (Int × Int)) (ps : List Par) (on : List (Int × Int)) (qs : List Par) : Prop := LandEq ps qs ∧ PlanQ o ps ∧ PlanQ on qs ∧ ∀ x ∈ qs, x.own.size ≤ maxLen
theorem mk_okq {o : List (Int × Int)} {ps : List Par} {p : Int × Int} (hop : ∀ x ∈ ps, x.own.size ≤ maxLen) (h : mkE o ps p = 0) : OkQ o ps (mkO o ps p) (mkP o ps p) := by
 have hP : PlanQ o ps := by
  have h' := h
  unfold mkE at h'
  split at h'
  ·cases h'
  ·rename_i h1
   exact (chkQ_iff _ _).1 ((Bool.not_eq_false _).mp h1)
 have e1 : mkO o ps p = putC o p := if_pos h
 have e2 : mkP o ps p = ps.map (ptP p) := if_pos h
 rw [e1, e2]
 exact ⟨mark_land hP, hP, mk_sound h, fun x hx => by
  obtain ⟨y, hy, rfl⟩ := List.mem_map.1 hx
  exact hop y hy⟩
theorem cl_okq {o : List (Int × Int)} {ps : List Par} {p : Int × Int} (hop : ∀ x ∈ ps, x.own.size ≤ maxLen) (h : clE o ps p = 0) : OkQ o ps (clO o ps p) (clQ o ps p) := by
 obtain ⟨h1, h2, h3, -, h5⟩ := cl_sound h
 have hP := (chkQ_iff _ _).1 h1
 have e1 : clO o ps p = nmL (repL o p []) := if_pos h
 have e2 : clQ o ps p = ps.map (fun x => nmP (clP p x)) := if_pos h
 rw [e1, e2]
 exact ⟨clear_land hP h3 h2 h5, hP, h5, fun x hx => by
  obtain ⟨y, hy, rfl⟩ := List.mem_map.1 hx
  exact hop y hy⟩
set_option maxRecDepth 100000 in
set_option maxHeartbeats 20000000 in
theorem same_walk (o : List (Int × Int)) (Ao : Option Addr) (co : Nat) (l : List PV) (Ap : Option Addr) (cp : Nat) (p z : Int × Int) (hown : ∀ x ∈ l, x.par.own.size ≤ maxLen) (w : World) (h : PlanAt w o Ao co l Ap cp) :
  Calls Tryz.prog 7 #[.agg #[.slice Ao o.length co, .slice Ap l.length cp], .agg #[.int .i64 p.1, .int .i64 p.2], .agg #[.int .i64 z.1, .int .i64 z.2]] w fun e w' => e = .returned (.bool true) ∧ Below w.heap.size w w' := by
 have HAN := Lib.hid (fun W => bend_answers W)
 have HFW := Lib.hid (fun K W (hh : Hold w K W) => few8_any o Ao co l Ap cp (by have := h.room; omega) W (h.prs.on hh.1))
 have HOWX := Lib.hid (fun (hl : l.length ≤ 80) W (hb : Below w.heap.size w W) => Own_own o Ao co l Ap cp (by omega) W (h.on hb))
 have HMKX : Hid (l.length ≤ 80 → ∀ (A1 : Option Addr) (c1 : Nat) (l' : List PV) (Ap1 : Option Addr) (cp1 : Nat) (W : World), l'.map PV.par = l.map PV.par → PlanAt W o A1 c1 l' Ap1 cp1 → Calls Tryz.prog 14 #[.agg #[.slice A1 o.length c1, .slice Ap1 l.length cp1], .agg #[.int .i64 p.1, .int .i64 p.2]] W fun e w' => MkAns W w' (mkO o (l.map PV.par) p) (mkP o (l.map PV.par) p) (mkE o (l.map PV.par) p) e) := fun hl A1 c1 l' Ap1 cp1 W hm hp => by
  have hlen : l'.length = l.length := par_len hm
  have hx := Mark_any o A1 c1 l' Ap1 cp1 p (by omega) (by have := h.room; omega) (own_par hm hown) W hp
  rw [hlen, hm] at hx
  exact hx.mono fun e w' hh => hh.ans
 have HCLX : Hid (l.length ≤ 80 → ∀ (A1 : Option Addr) (c1 : Nat) (l' : List PV) (Ap1 : Option Addr) (cp1 : Nat) (W : World), l'.map PV.par = l.map PV.par → PlanAt W o A1 c1 l' Ap1 cp1 → Calls Tryz.prog 16 #[.agg #[.slice A1 o.length c1, .slice Ap1 l.length cp1], .agg #[.int .i64 p.1, .int .i64 p.2]] W fun e w' => MkAns W w' (clO o (l.map PV.par) p) (clQ o (l.map PV.par) p) (clE o (l.map PV.par) p) e) := fun hl A1 c1 l' Ap1 cp1 W hm hp => by
  have hlen : l'.length = l.length := par_len hm
  have hx := Clear_any o A1 c1 l' Ap1 cp1 p (by omega) (by have := h.room; omega) (own_par hm hown) W hp
  rw [hlen, hm] at hx
  exact hx.mono fun e w' hh => hh.ans
 have HSM1 := Lib.hid (mk_small o (l.map PV.par) p)
 have HSM2 := Lib.hid (cl_small o (l.map PV.par) p)
 have HRG1 := Lib.hid (fun (l2 : List PV) (hm : l2.map PV.par = mkP o (l.map PV.par) p) => mk_rings hm)
 have HRG2 := Lib.hid (fun (l2 : List PV) (hm : l2.map PV.par = clQ o (l.map PV.par) p) => cl_rings hm)
 have hop : ∀ x ∈ l.map PV.par, x.own.size ≤ maxLen := fun x hx => by
  obtain ⟨y, hy, rfl⟩ := List.mem_map.1 hx
  exact hown y hy
 have HOK1 := Lib.hid (fun (h : mkE o (l.map PV.par) p = 0) => mk_okq hop h)
 have HOK2 := Lib.hid (fun (h : clE o (l.map PV.par) p = 0) => cl_okq hop h)
 have HGZ := Lib.hid (fun W t => ref_good_one z 1 W t)
 have HPL := Lib.hid (fun W (hb : Below w.heap.size w W) => h.on hb)
 have HOWN := Lib.hid hown
 have HQ := (((Hold.refl w).new #[.slice Ao o.length co, .slice Ap l.length cp] 26).new' #[.int .i64 p.1, .int .i64 p.2] 28 (n := w.heap.size + 1) (by simp)).new' #[.int .i64 z.1, .int .i64 z.2] 28 (n := w.heap.size + 1 + 1) (by simp)
 clear h hown hop
 generalize mkO o (l.map PV.par) p = on at *
 generalize mkP o (l.map PV.par) p = qs at *
 generalize mkE o (l.map PV.par) p = er at *
 generalize clO o (l.map PV.par) p = on2 at *
 generalize clQ o (l.map PV.par) p = qs2 at *
 generalize clE o (l.map PV.par) p = er2 at *
 go_enter Tryz.func7, Tryz.ntmps7
 go_upto_region 1 with (fail)
 generalize (World.alloc _ _) = W1 at HQ ⊢
 generalize w.heap.size + 1 + 1 = g5 at HQ ⊢
 generalize w.heap.size + 1 = g4 at HQ ⊢
 obtain ⟨g3, hg3⟩ : ∃ g, w.heap.size = g := ⟨_, rfl⟩
 rw [hg3] at HQ ⊢
 have HG3 := Lib.hid hg3
 clear hg3
 have HQ1 := Lib.hid HQ
 clear HQ
 go_wp2_with fail
 go_at_call 8
 refine (HAN.out _).mono ?_
 rintro e' W2 ⟨rfl, hB⟩
 have hq2 := HQ1.out.on hB
 obtain ⟨c0, c1⟩ := hq2.pt (.tail _ (.tail _ (.head _)))
 have HQ2 := Lib.hid hq2
 clear hB hq2
 go_wp2_with fail
 go_at_call 9
 refine (HFW.out _ _ HQ2.out).mono ?_
 rintro e' W3 ⟨b, rfl, hb80, hB⟩
 have HQ3 := Lib.hid (HQ2.out.on hB)
 have HB80 := Lib.hid hb80
 clear c0 c1 hB hb80 HFW
 cases b
 ·go_wp2_with fail
  go_at_call 8
  refine (HAN.out _).mono ?_
  rintro e' W8 ⟨rfl, hB⟩
  have HQ8 := Lib.hid (HQ3.out.on hB)
  clear hB
  go_wp2
  go_ret
  exact ⟨rfl, HG3.out ▸ HQ8.out.1⟩
 ·have hbb := HB80.out (by first | trivial | rfl)
  have HOW := Lib.hid (HOWX.out hbb.2.2)
  have HMK := Lib.hid (HMKX.out hbb.2.2)
  have HCL := Lib.hid (HCLX.out hbb.2.2)
  clear HB80 hbb HOWX HMKX HCLX
  obtain ⟨x0, x1⟩ := HQ3.out.pt (.head _)
  go_wp2_with fail
  go_at_call 24
  refine (HGZ.out _ _).mono ?_
  rintro e' W3b ⟨rfl, hB⟩
  have HQ3b := Lib.hid ((HQ3.out.alloc _).on (hB.mono (by simp only [World.size_alloc]; omega)))
  clear x0 x1 hB HQ3
  have HQ3 := Lib.hid HQ3b.out
  clear HQ3b
  cases hgg : gdL [z]
  ·go_wp2_with fail
   go_at_call 8
   refine (HAN.out _).mono ?_
   rintro e' W8 ⟨rfl, hB⟩
   have HQ8 := Lib.hid (HQ3.out.on hB)
   clear hB
   go_wp2
   go_ret
   exact ⟨rfl, HG3.out ▸ HQ8.out.1⟩
  have HGD : Hid (gd z = true) := by
   simp only [gdL, List.all_cons, List.all_nil, Bool.and_true] at hgg
   exact hgg
  clear hgg HAN
  go_upto_region 3 with (fail)
  go_cut [7, 8] (fun s5 s6 wx => ∃ g7 A2 c2 l2 Ap2 cp2, s5 = .pointer (some ⟨g7, 0, none⟩) ∧ s6 = .int .i64 er ∧ l2.map PV.par = qs ∧ Og w A2 on c2 Ap2 l2.length l2 cp2 g7 [(g5, #[.int .i64 z.1, .int .i64 z.2], 28), (g4, #[.int .i64 p.1, .int .i64 p.2], 28), (g3, #[.slice Ao o.length co, .slice Ap l.length cp], 26)] wx)
  case first =>
   as_aux_lemma =>
    have h1 := HQ3.out.drew
    clear HOK1 HOK2 HPL HOWN HCL HRG1 HRG2 HSM1 HSM2 HGZ
    refine wp_region_held_drew (S := fun W => W.cell? ⟨g3, 0, none⟩ = some (.slice Ao o.length co) ∧ W.cell? ⟨g3, 1, none⟩ = some (.slice Ap l.length cp) ∧ W.cell? ⟨g4, 0, none⟩ = some (.int .i64 p.1) ∧ W.cell? ⟨g4, 1, none⟩ = some (.int .i64 p.2) ∧ W.cell? ⟨g5, 0, none⟩ = some (.int .i64 z.1) ∧ W.cell? ⟨g5, 1, none⟩ = some (.int .i64 z.2)) (by kernel_rfl) ?_ (fun hHeld => ?_)
    ·(try dsimp only)
     exact Hold.rd3 h1
    refine tZ 0 ?_; refine tZ 2 ?_
    generalize (World.drew _) = Wd at h1 hHeld ⊢
    refine wpAnyH_ready (rs := [1, 7]) (by decide +kernel) (by simp) ?_
    refine AllReadyH.cons rfl (fun K hK => ?_) (AllReadyH.cons rfl (fun K hK => ?_) AllReadyH.nil)
    ·(try simp only [jA, jB, jC])
     go_simp
     go_at_call 11
     refine (HOW.out _ h1.1).mono ?_
     rintro e' Wa ⟨hBa, A1, c1, l', Ap1, cp1, rfl, hm, hpa, -⟩
     have h2 := h1.on hBa
     refine hK.out _ _ ?_ (fun hHeld => ?_)
     focus ((try dsimp only); exact Hold.rd3 h2; done)
     clear hK K
     (try simp only [Act.put, jA, jB, jC, jD, jE, jF])
     refine wpAnyH_ready (rs := [3, 7]) (by decide +kernel) (by simp) ?_
     refine AllReadyH.cons rfl (fun K hK => ?_) (AllReadyH.cons rfl (fun K hK => ?_) AllReadyH.nil)
     ·(try simp only [jA, jB, jC])
      go_simp
      go_at_call 14
      refine (HMK.out A1 c1 l' Ap1 cp1 _ hm hpa).mono ?_
      rintro e' Wb ⟨hBb, A2, c2, l2, Ap2, cp2, rfl, hm2, r1, r2, r3⟩
      have h3 := h2.on hBb
      have r1 := r1.base h2.1
      have r2 := RowI.base r2 h2.1
      have r3 := OwnRs.base r3 h2.1
      refine hK.out _ _ ?_ (fun hHeld => ?_)
      focus ((try dsimp only); exact Hold.rd3 h3; done)
      clear hK K
      (try simp only [Act.put, jA, jB, jC, jD, jE, jF])
      refine tZ 4 ?_; refine tZ 5 ?_; refine tZ 6 ?_
      refine wpAnyH_ready (rs := [7]) (by decide +kernel) (by simp) ?_
      refine AllReadyH.cons rfl (fun K hK => ?_) AllReadyH.nil
      have h4 := h3.new #[.slice none 0 0, .slice none 0 0] 26
      have hbah4 := (Below.refl Wb.heap.size Wb).alloc (Nat.le_refl _) (Obj.cells #[.slice none 0 0, .slice none 0 0] 26 (0, 0))
      have r1 := r1.on hbah4
      have r2 := r2.on hbah4
      have r3 := r3.on hbah4
      (try simp only [jA, jB, jC])
      go_simp
      refine hK.out _ _ ?_ (fun hHeld => ?_)
      focus ((try dsimp only); exact Hold.rd3 h4.tail; done)
      clear hK K
      (try simp only [Act.put, jA, jB, jC, jD, jE, jF])
      clear hbah4
      generalize (World.alloc _ _) = Wc at h4 r1 r2 r3 hHeld ⊢
      generalize Wb.heap.size = g7 at h4 ⊢
      obtain ⟨y0, y1⟩ := h4.pt (.head _)
      obtain ⟨z0, z1⟩ := h4.fz (.head _)
      have hog := Og.mkSet h4 r1 r2 r3
      refine wpAnyH_ready (rs := [8]) (by decide +kernel) (by simp) ?_
      refine AllReadyH.cons rfl (fun K hK => ?_) AllReadyH.nil
      (try simp only [jA, jB, jC])
      go_simp
      refine hK.out _ _ ?_ (fun hHeld => ?_)
      focus ((try dsimp only); exact Hold.rd3 hog.hold.tail; done)
      clear hK K
      (try simp only [Act.put, jA, jB, jC, jD, jE, jF])
      refine tZ 9 ?_
      refine wpAnyH_done (by decide +kernel) ?_ _
      go_wp2_with fail
      go_meet
      exact ⟨_, A2, c2, l2, Ap2, cp2, rfl, rfl, hm2, hog⟩
     ·have h3 := h2.new #[.slice none 0 0, .slice none 0 0] 26
      have hbah3 := (Below.refl Wa.heap.size Wa).alloc (Nat.le_refl _) (Obj.cells #[.slice none 0 0, .slice none 0 0] 26 (0, 0))
      have hpa := hpa.on hbah3
      (try simp only [jA, jB, jC])
      go_simp
      refine hK.out _ _ ?_ (fun hHeld => ?_)
      focus ((try dsimp only); exact Hold.rd3 h3.tail; done)
      clear hK K
      (try simp only [Act.put, jA, jB, jC, jD, jE, jF])
      clear hbah3
      generalize (World.alloc _ _) = Wb at h3 hpa hHeld ⊢
      generalize Wa.heap.size = g7 at h3 ⊢
      refine wpAnyH_ready (rs := [3]) (by decide +kernel) (by simp) ?_
      refine AllReadyH.cons rfl (fun K hK => ?_) AllReadyH.nil
      (try simp only [jA, jB, jC])
      go_simp
      go_at_call 14
      refine (HMK.out A1 c1 l' Ap1 cp1 _ hm hpa).mono ?_
      rintro e' Wc ⟨hBb, A2, c2, l2, Ap2, cp2, rfl, hm2, r1, r2, r3⟩
      have h4 := h3.on hBb
      have r1 := r1.base h3.1
      have r2 := RowI.base r2 h3.1
      have r3 := OwnRs.base r3 h3.1
      refine hK.out _ _ ?_ (fun hHeld => ?_)
      focus ((try dsimp only); exact Hold.rd3 h4.tail; done)
      clear hK K
      (try simp only [Act.put, jA, jB, jC, jD, jE, jF])
      refine tZ 4 ?_; refine tZ 5 ?_; refine tZ 6 ?_
      obtain ⟨y0, y1⟩ := h4.pt (.head _)
      obtain ⟨z0, z1⟩ := h4.fz (.head _)
      have hog := Og.mkSet h4 r1 r2 r3
      refine wpAnyH_ready (rs := [8]) (by decide +kernel) (by simp) ?_
      refine AllReadyH.cons rfl (fun K hK => ?_) AllReadyH.nil
      (try simp only [jA, jB, jC])
      go_simp
      refine hK.out _ _ ?_ (fun hHeld => ?_)
      focus ((try dsimp only); exact Hold.rd3 hog.hold.tail; done)
      clear hK K
      (try simp only [Act.put, jA, jB, jC, jD, jE, jF])
      refine tZ 9 ?_
      refine wpAnyH_done (by decide +kernel) ?_ _
      go_wp2_with fail
      go_meet
      exact ⟨_, A2, c2, l2, Ap2, cp2, rfl, rfl, hm2, hog⟩
    ·have h2 := h1.new #[.slice none 0 0, .slice none 0 0] 26
     have hbah2 := (Below.refl Wd.heap.size Wd).alloc (Nat.le_refl _) (Obj.cells #[.slice none 0 0, .slice none 0 0] 26 (0, 0))
     (try simp only [jA, jB, jC])
     go_simp
     refine hK.out _ _ ?_ (fun hHeld => ?_)
     focus ((try dsimp only); exact Hold.rd3 h2.tail; done)
     clear hK K
     (try simp only [Act.put, jA, jB, jC, jD, jE, jF])
     clear hbah2
     generalize (World.alloc _ _) = We at h2 hHeld ⊢
     generalize Wd.heap.size = g7 at h2 ⊢
     refine wpAnyH_ready (rs := [1]) (by decide +kernel) (by simp) ?_
     refine AllReadyH.cons rfl (fun K hK => ?_) AllReadyH.nil
     (try simp only [jA, jB, jC])
     go_simp
     go_at_call 11
     refine (HOW.out _ h2.1).mono ?_
     rintro e' Wf ⟨hBa, A1, c1, l', Ap1, cp1, rfl, hm, hpa, -⟩
     have h3 := h2.on hBa
     refine hK.out _ _ ?_ (fun hHeld => ?_)
     focus ((try dsimp only); exact Hold.rd3 h3.tail; done)
     clear hK K
     (try simp only [Act.put, jA, jB, jC, jD, jE, jF])
     refine wpAnyH_ready (rs := [3]) (by decide +kernel) (by simp) ?_
     refine AllReadyH.cons rfl (fun K hK => ?_) AllReadyH.nil
     (try simp only [jA, jB, jC])
     go_simp
     go_at_call 14
     refine (HMK.out A1 c1 l' Ap1 cp1 _ hm hpa).mono ?_
     rintro e' Wg ⟨hBb, A2, c2, l2, Ap2, cp2, rfl, hm2, r1, r2, r3⟩
     have h4 := h3.on hBb
     have r1 := r1.base h3.1
     have r2 := RowI.base r2 h3.1
     have r3 := OwnRs.base r3 h3.1
     refine hK.out _ _ ?_ (fun hHeld => ?_)
     focus ((try dsimp only); exact Hold.rd3 h4.tail; done)
     clear hK K
     (try simp only [Act.put, jA, jB, jC, jD, jE, jF])
     refine tZ 4 ?_; refine tZ 5 ?_; refine tZ 6 ?_
     obtain ⟨y0, y1⟩ := h4.pt (.head _)
     obtain ⟨z0, z1⟩ := h4.fz (.head _)
     have hog := Og.mkSet h4 r1 r2 r3
     refine wpAnyH_ready (rs := [8]) (by decide +kernel) (by simp) ?_
     refine AllReadyH.cons rfl (fun K hK => ?_) AllReadyH.nil
     (try simp only [jA, jB, jC])
     go_simp
     refine hK.out _ _ ?_ (fun hHeld => ?_)
     focus ((try dsimp only); exact Hold.rd3 hog.hold.tail; done)
     clear hK K
     (try simp only [Act.put, jA, jB, jC, jD, jE, jF])
     refine tZ 9 ?_
     refine wpAnyH_done (by decide +kernel) ?_ _
     go_wp2_with fail
     go_meet
     exact ⟨_, A2, c2, l2, Ap2, cp2, rfl, rfl, hm2, hog⟩
  case rest =>
   obtain ⟨g7, A2, c2, l2, Ap2, cp2, rfl, rfl, hm2, hog⟩ := hcut
   generalize hWc : wc = W4 at *
   clear hWc HMK
   by_cases hz : er = 0
   ·clear HOK2 HCL HRG2 HSM2 HOW
    have HOKX := Lib.hid (HOK1.out hz)
    subst hz
    obtain ⟨⟨hln0, hle⟩, hP, hQ, howq⟩ := HOKX.out
    have hlen : l2.length = l.length := by
     have := congrArg List.length hm2
     rw [List.length_map, hln0, List.length_map] at this
     exact this
    rw [hlen] at hog
    have hl64 : l.length ≤ 64 := by
     have := hP.fine.2.2.2.1
     rwa [List.length_map] at this
    have hsm := (HSM1.out).1
    have HPQ : Hid (∀ W, Below W4.heap.size W4 W → PlanAt W on A2 c2 l2 Ap2 cp2) := fun W hb => (hog.on hb).plan hlen.symm (by omega) ((HRG1.out) l2 hm2)
    have hownq : ∀ x ∈ l2, x.par.own.size ≤ maxLen := fun x hx => howq x.par (by rw [← hm2]; exact List.mem_map_of_mem hx)
    have HCK : Hid (∀ W, Below W4.heap.size W4 W → Calls Tryz.prog 18 #[.agg #[.slice A2 on.length c2, .slice Ap2 l.length cp2]] W fun e' w' => e' = .returned (.bool true) ∧ Below W.heap.size W w') := fun W hb => by
     have hx := ref_chk on A2 c2 l2 Ap2 cp2 (by omega) (by omega) hownq W (HPQ.out W hb).prs (HPQ.out W hb).out
     rw [chkQ_of, hm2, (chkQ_iff _ _).2 hQ, hlen] at hx
     exact hx
    have HP4 : Hid (∀ W, Below W4.heap.size W4 W → PlanAt W o Ao co l Ap cp) := fun W hb => HPL.out W (hog.on hb).hold.1
    have HPE := Lib.hid hP.each
    have HQE := Lib.hid hQ.each
    have HM2 := Lib.hid hm2
    have HLE := Lib.hid hle
    have HLQ : Hid (qs.length = l.length) := by unfold Hid; rw [hln0, List.length_map]
    have HOG4 : Hid (∀ K W, Hold W4 K W → (W.cell? ⟨g7, 0, none⟩ = some (.slice A2 on.length c2) ∧ W.cell? ⟨g7, 1, none⟩ = some (.slice Ap2 l.length cp2)) ∧ (W.cell? ⟨g5, 0, none⟩ = some (.int .i64 z.1) ∧ W.cell? ⟨g5, 1, none⟩ = some (.int .i64 z.2)) ∧ (W.cell? ⟨g3, 0, none⟩ = some (.slice Ao o.length co) ∧ W.cell? ⟨g3, 1, none⟩ = some (.slice Ap l.length cp))) := fun K W hh => by
     have h1 := (hog.on hh.1).hold
     exact ⟨h1.pt (.head _), h1.pt (.tail _ (.head _)), h1.pt (.tail _ (.tail _ (.tail _ (.head _))))⟩
    have HEND : Hid (∀ K W, Hold W4 K W → Below w.heap.size w W) := fun K W hh => (hog.on hh.1).hold.1
    have HZ := Hold.refl W4
    have HL64 := Lib.hid hl64
    clear hln0 hle hP hQ howq hlen hog hsm hownq hm2 hl64
    go_wp2_with fail
    go_loopg [9] l.length (fun g i wr => ∃ k : Nat, k ≤ l.length ∧ g = l.length - k ∧ i = .int .i64 k ∧ Hold W4 [] wr)
    case atStart => exact ⟨0, Nat.zero_le _, rfl, rfl, HZ⟩
    case round =>
     clear HZ
     obtain ⟨k, hk, hgk, rfl, HB⟩ := hrel
     have HGK := Lib.hid hgk
     clear hgk
     obtain ⟨⟨-, c1⟩, -, -, c5⟩ := HOG4.out _ _ HB
     by_cases hlt : k < l.length
     ·have hlt2 : k < l2.length := by
       have h1 := HLE.out k (by rw [List.length_map]; exact hlt)
       have := congrArg List.length HM2.out
       rw [List.length_map] at this
       have hq := HLQ.out
       omega
      obtain ⟨ad, hA, -⟩ := (HP4.out _ HB.1).prs.at hlt
      obtain ⟨ad2, hA2, -⟩ := (HPQ.out _ HB.1).prs.at hlt2
      have HW : Hid (∀ W, Below wr.heap.size wr W → Hold W4 [] W) := fun W hb => HB.on hb
      have HDX := Lib.hid (fun W (hb : Below wr.heap.size wr W) => Prs.cells hA (HP4.out W (HW.out W hb).1).prs (List.getElem?_eq_getElem hlt) (Below.refl _ W))
      have HDY := Lib.hid (fun W (hb : Below wr.heap.size wr W) => Prs.cells hA2 (HPQ.out W (HW.out W hb).1).prs (List.getElem?_eq_getElem hlt2) (Below.refl _ W))
      have hmx := List.mem_map_of_mem (f := PV.par) (List.getElem_mem hlt)
      have hmy := List.mem_map_of_mem (f := PV.par) (List.getElem_mem hlt2)
      rw [HM2.out] at hmy
      have hnx := HPE.out _ hmx
      have hny := HQE.out _ hmy
      have hkq : k < qs.length := by rw [← HM2.out, List.length_map]; exact hlt2
      have hy : l2[k].par = qs[k] := by
       have h1 := List.getElem_of_eq HM2.out (i := k) (by rw [List.length_map]; exact hlt2)
       rw [List.getElem_map] at h1
       exact h1
      obtain ⟨i1, i2, i3⟩ := HLE.out k (by rw [List.length_map]; exact hlt) hkq
      rw [← hy, List.getElem_map] at i1 i2 i3
      have HAX := Lib.hid (fun W (hb : Below wr.heap.size wr W) => ref_area_good l[k].par.ring l[k].A l[k].cap (normP_small hnx).1 W ((HP4.out W (HW.out W hb).1).prs.2 _ (List.getElem_mem hlt)).1)
      have HAY := Lib.hid (fun W (hb : Below wr.heap.size wr W) => ref_area_good l2[k].par.ring l2[k].A l2[k].cap (normP_small hny).1 W ((HPQ.out W (HW.out W hb).1).prs.2 _ (List.getElem_mem hlt2)).1)
      have HSX := Lib.hid (fun W (hb : Below wr.heap.size wr W) => ref_side l[k].par.ring l[k].A l[k].cap z (by have := (normP_small hnx).2.1; unfold maxLen; omega) (gdL_iff.2 (normP_small hnx).2.2) (gd_iff.1 HGD.out) W ((HP4.out W (HW.out W hb).1).prs.2 _ (List.getElem_mem hlt)).1)
      have HSY := Lib.hid (fun W (hb : Below wr.heap.size wr W) => ref_side l2[k].par.ring l2[k].A l2[k].cap z (by have := (normP_small hny).2.1; unfold maxLen; omega) (gdL_iff.2 (normP_small hny).2.2) (gd_iff.1 HGD.out) W ((HPQ.out W (HW.out W hb).1).prs.2 _ (List.getElem_mem hlt2)).1)
      rw [i2] at HAY
      rw [i3] at HSY
      rw [i1] at HDY
      have b2 : (0 : Int) ≤ (k : Int) := by omega
      have b3 : (k : Int) < (l.length : Int) := by omega
      have b4 : (l.length : Int) ≤ 64 := by have := HL64.out; omega
      subst hA
      subst hA2
      have HK : Hid (∀ W, Below wr.heap.size wr W → (W.cell? ⟨g3, 1, none⟩ = some (.slice (some ad) l.length cp) ∧ W.cell? ⟨g7, 1, none⟩ = some (.slice (some ad2) l.length cp2) ∧ W.cell? ⟨g5, 0, none⟩ = some (.int .i64 z.1) ∧ W.cell? ⟨g5, 1, none⟩ = some (.int .i64 z.2)) ∧ (W.cell? (ad.add (k * 3)) = some (.int .i64 l[k].par.id) ∧ W.cell? ⟨(ad.add (k * 3)).block, (ad.add (k * 3)).off + 1, none⟩ = some (.slice l[k].A l[k].par.ring.length l[k].cap)) ∧ W.cell? (ad2.add (k * 3)) = some (.int .i64 l[k].par.id) ∧ W.cell? ⟨(ad2.add (k * 3)).block, (ad2.add (k * 3)).off + 1, none⟩ = some (.slice l2[k].A l2[k].par.ring.length l2[k].cap)) := fun W hb => by
       obtain ⟨⟨-, x1⟩, ⟨x2, x3⟩, -, x4⟩ := HOG4.out _ _ (HW.out W hb)
       exact ⟨⟨x4, x1, x2, x3⟩, ⟨(HDX.out W hb).1, (HDX.out W hb).2.1⟩, (HDY.out W hb).1, (HDY.out W hb).2.1⟩
      clear HDX HDY hmx hmy hnx hny i1 i2 i3 hy hkq
      generalize l[k].par.ring = xr at *
      generalize l[k].par.id = xi at *
      generalize l[k].A = xA at *
      generalize l[k].cap = xc at *
      generalize l2[k].par.ring = yr at *
      generalize l2[k].A = yA at *
      generalize l2[k].cap = yc at *
      generalize hax : area xr = ax at *
      generalize hsx : side xr z = sx at *
      clear hax hsx
      obtain ⟨⟨x0, x1, -, -⟩, ⟨-, x2⟩, -⟩ := HK.out _ (Below.refl _ _)
      have HBR := Lib.hid (Below.refl wr.heap.size wr)
      clear HB HPE HQE HPQ HP4 HLE HM2
      go_wp2_with fail
      go_at_call 22
      refine (HAX.out _ HBR.out).mono ?_
      rintro e' W11 ⟨rfl, hB⟩
      have hb11 := HBR.out.trans (hB.mono HBR.out.size)
      have HB12 := Lib.hid (hb11.alloc hb11.size (Obj.cells #[.int .i64 (hiOf ax), .int .u64 (loOf ax)] 41 (0, 0)))
      have h20 := ((Hold.refl wr).on hB).new #[.int .i64 (hiOf ax), .int .u64 (loOf ax)] 41
      clear x0 x1 x2 hB hb11 HAX c1 c5
      go_upto_region 14 with (fail)
      generalize (World.alloc _ _) = W12 at h20 HB12 ⊢
      generalize W11.heap.size = g12 at h20 ⊢
      obtain ⟨⟨-, x0, -, -⟩, -, -, x2⟩ := HK.out _ HB12.out
      have HQ12 := Lib.hid h20
      clear h20
      go_wp2_with fail
      go_at_call 22
      refine (HAY.out _ HB12.out).mono ?_
      rintro e' W13 ⟨rfl, hB⟩
      have h21 := (HQ12.out.on hB).new #[.int .i64 (hiOf ax), .int .u64 (loOf ax)] 41
      clear x0 x2 hB HAY HQ12 HB12
      go_upto_region 15 with (fail)
      generalize (World.alloc _ _) = W14 at h21 ⊢
      generalize W13.heap.size = g14 at h21 ⊢
      have HQ14 := Lib.hid h21
      have h22 := h21.drew
      clear h21
      have HKD : Hid (∀ L W, Hold wr ((g14, #[.int .i64 (hiOf ax), .int .u64 (loOf ax)], 41) :: (g12, #[.int .i64 (hiOf ax), .int .u64 (loOf ax)], 41) :: L) W → ((W.cell? ⟨g3, 1, none⟩ = some (.slice (some ad) l.length cp) ∧ W.cell? ⟨g7, 1, none⟩ = some (.slice (some ad2) l.length cp2) ∧ W.cell? ⟨g5, 0, none⟩ = some (.int .i64 z.1) ∧ W.cell? ⟨g5, 1, none⟩ = some (.int .i64 z.2)) ∧ (W.cell? (ad.add (k * 3)) = some (.int .i64 xi) ∧ W.cell? ⟨(ad.add (k * 3)).block, (ad.add (k * 3)).off + 1, none⟩ = some (.slice xA xr.length xc)) ∧ W.cell? (ad2.add (k * 3)) = some (.int .i64 xi) ∧ W.cell? ⟨(ad2.add (k * 3)).block, (ad2.add (k * 3)).off + 1, none⟩ = some (.slice yA yr.length yc)) ∧ (W.cell? ⟨g14, 0, none⟩ = some (.int .i64 (hiOf ax)) ∧ W.cell? ⟨g14, 1, none⟩ = some (.int .u64 (loOf ax))) ∧ W.cell? ⟨g12, 0, none⟩ = some (.int .i64 (hiOf ax)) ∧ W.cell? ⟨g12, 1, none⟩ = some (.int .u64 (loOf ax))) := fun L W hh => ⟨HK.out W hh.1, hh.pt (.head _), hh.pt (.tail _ (.head _))⟩
      refine wp_region_held_drew (S := fun W => ((W.cell? ⟨g3, 1, none⟩ = some (.slice (some ad) l.length cp) ∧ W.cell? ⟨g7, 1, none⟩ = some (.slice (some ad2) l.length cp2) ∧ W.cell? ⟨g5, 0, none⟩ = some (.int .i64 z.1) ∧ W.cell? ⟨g5, 1, none⟩ = some (.int .i64 z.2)) ∧ (W.cell? (ad.add (k * 3)) = some (.int .i64 xi) ∧ W.cell? ⟨(ad.add (k * 3)).block, (ad.add (k * 3)).off + 1, none⟩ = some (.slice xA xr.length xc)) ∧ W.cell? (ad2.add (k * 3)) = some (.int .i64 xi) ∧ W.cell? ⟨(ad2.add (k * 3)).block, (ad2.add (k * 3)).off + 1, none⟩ = some (.slice yA yr.length yc)) ∧ (W.cell? ⟨g14, 0, none⟩ = some (.int .i64 (hiOf ax)) ∧ W.cell? ⟨g14, 1, none⟩ = some (.int .u64 (loOf ax))) ∧ W.cell? ⟨g12, 0, none⟩ = some (.int .i64 (hiOf ax)) ∧ W.cell? ⟨g12, 1, none⟩ = some (.int .u64 (loOf ax))) (by kernel_rfl) ?_ (fun hHeld => ?_)
      ·(try dsimp only)
       exact HKD.out _ _ h22
      refine tZ 0 ?_; refine tZ 1 ?_; refine tZ 2 ?_; refine tZ 3 ?_; refine tZ 4 ?_; refine tZ 5 ?_; refine tZ 6 ?_; refine tZ 7 ?_; refine tZ 8 ?_; refine tZ 9 ?_; refine tZ 10 ?_; refine tZ 11 ?_; refine tZ 12 ?_; refine tZ 13 ?_; refine tZ 14 ?_; refine tZ 15 ?_; refine tZ 16 ?_; refine tZ 17 ?_; refine tZ 18 ?_; refine tZ 19 ?_; refine tZ 20 ?_; refine tZ 21 ?_; refine tZ 22 ?_; refine tZ 23 ?_; refine tZ 24 ?_; refine tZ 25 ?_; refine tZ 27 ?_; refine tZ 28 ?_; refine tZ 29 ?_; refine tZ 30 ?_; refine tZ 31 ?_; refine tZ 32 ?_; refine tZ 33 ?_
      refine wpAnyH_ready (rs := [26]) (by decide +kernel) (by simp) ?_
      refine AllReadyH.cons rfl (fun K hK => ?_) AllReadyH.nil
      (try simp only [jA, jB, jC])
      go_simp
      (go_at_call 25; refine (HSX.out _ h22.1).mono ?_; rintro e' W15 ⟨rfl, hB⟩; have h23 := h22.on hB)
      refine hK.out _ _ ?_ (fun hHeld => ?_)
      focus ((try dsimp only); exact HKD.out _ _ h23; done)
      clear hK K
      (try simp only [Act.put, jA, jB, jC, jD, jE, jF])
      refine wpAnyH_ready (rs := [34]) (by decide +kernel) (by simp) ?_
      refine AllReadyH.cons rfl (fun K hK => ?_) AllReadyH.nil
      (try simp only [jA, jB, jC])
      go_simp
      (go_at_call 25; refine (HSY.out _ h23.1).mono ?_; rintro e' W16 ⟨rfl, hB⟩; have h24 := h23.on hB)
      refine hK.out _ _ ?_ (fun hHeld => ?_)
      focus ((try dsimp only); exact HKD.out _ _ h24; done)
      clear hK K
      (try simp only [Act.put, jA, jB, jC, jD, jE, jF])
      refine tZ 35 ?_; refine tZ 36 ?_
      refine wpAnyH_done (by decide +kernel) ?_ _
      have HFIN := Lib.hid (HW.out _ h24.1)
      go_wp2_with fail
      go_roundg (l.length - (k + 1))
      case measure => have := HGK.out; omega
      case rel => exact ⟨k + 1, by omega, rfl, by go_num, HFIN.out⟩
     ·obtain rfl : k = l.length := by omega
      have b0 : ¬ ((l.length : Int) < (l.length : Int)) := by omega
      obtain ⟨⟨c0, -⟩, -, -, -⟩ := HOG4.out _ _ HB
      have HQ7 := Lib.hid HB
      clear HB
      go_wp2_with fail
      go_at_call 18
      refine (HCK.out _ HQ7.out.1).mono ?_
      rintro e' W8 ⟨rfl, hB⟩
      have h14 := HQ7.out.on hB
      clear c0 c1 c5 hB
      obtain ⟨⟨c0, c1⟩, -, c4, c5⟩ := HOG4.out _ _ h14
      have HE := Lib.hid (HEND.out _ _ h14)
      clear h14
      go_wp2
      go_ret
      exact ⟨rfl, HG3.out ▸ HE.out⟩
   ·have e0 : (er == 0) = false := by simpa using hz
    have f0 : ¬ er = 0 := hz
    clear HOK1 HRG1 HSM1 hz
    go_upto_region 5 with (fail)
    have hogd := hog.drew
    have HKX : Hid (∀ (X : Option Addr) (xo : List (Int × Int)) (c : Nat) (Y : Option Addr) (n : Nat) (xl : List PV) (d : Nat) (W : World), Og w X xo c Y n xl d g7 [(g5, #[.int .i64 z.1, .int .i64 z.2], 28), (g4, #[.int .i64 p.1, .int .i64 p.2], 28), (g3, #[.slice Ao o.length co, .slice Ap l.length cp], 26)] W → (W.cell? ⟨g3, 0, none⟩ = some (.slice Ao o.length co) ∧ W.cell? ⟨g3, 1, none⟩ = some (.slice Ap l.length cp)) ∧ W.cell? ⟨g4, 0, none⟩ = some (.int .i64 p.1) ∧ W.cell? ⟨g4, 1, none⟩ = some (.int .i64 p.2)) := fun _ _ _ _ _ _ _ _ h => ⟨h.hold.pt (.tail _ (.tail _ (.tail _ (.head _)))), h.hold.pt (.tail _ (.tail _ (.head _)))⟩
    go_cut [8] (fun s8 wx => ∃ A3 c3 l3 Ap3 cp3, s8 = .int .i64 er2 ∧ l3.map PV.par = qs2 ∧ Og w A3 on2 c3 Ap3 l3.length l3 cp3 g7 [(g5, #[.int .i64 z.1, .int .i64 z.2], 28), (g4, #[.int .i64 p.1, .int .i64 p.2], 28), (g3, #[.slice Ao o.length co, .slice Ap l.length cp], 26)] wx)
    case first =>
     clear HOK2 HPL HOWN HRG2 HSM2
     refine wp_region_held_drew (S := fun W => (W.cell? ⟨g3, 0, none⟩ = some (.slice Ao o.length co) ∧ W.cell? ⟨g3, 1, none⟩ = some (.slice Ap l.length cp)) ∧ W.cell? ⟨g4, 0, none⟩ = some (.int .i64 p.1) ∧ W.cell? ⟨g4, 1, none⟩ = some (.int .i64 p.2)) (by kernel_rfl) ?_ (fun hHeld => ?_)
     ·(try dsimp only)
      exact HKX.out _ _ _ _ _ _ _ _ hogd
     refine tZ 0 ?_; refine tZ 2 ?_
     refine wpAnyH_ready (rs := [1]) (by decide +kernel) (by simp) ?_
     refine AllReadyH.cons rfl (fun K hK => ?_) AllReadyH.nil
     (try simp only [jA, jB, jC])
     go_simp
     (go_at_call 11; refine (HOW.out _ hogd.hold.1).mono ?_; rintro e' Wa ⟨hBa, A1, c1, l', Ap1, cp1, rfl, hm, hpa, -⟩; have hog1 := hogd.on hBa)
     refine hK.out _ _ ?_ (fun hHeld => ?_)
     focus ((try dsimp only); exact HKX.out _ _ _ _ _ _ _ _ hog1; done)
     clear hK K
     (try simp only [Act.put, jA, jB, jC, jD, jE, jF])
     refine wpAnyH_ready (rs := [3]) (by decide +kernel) (by simp) ?_
     refine AllReadyH.cons rfl (fun K hK => ?_) AllReadyH.nil
     (try simp only [jA, jB, jC])
     go_simp
     (go_at_call 16; refine (HCL.out A1 c1 l' Ap1 cp1 _ hm hpa).mono ?_; rintro e' Wb ⟨hBb, A3, c3, l3, Ap3, cp3, rfl, hm3, r1, r2, r3⟩; have hog2 := hog1.on hBb; have r1 := r1.base hog1.hold.1; have r2 := RowI.base r2 hog1.hold.1; have r3 := OwnRs.base r3 hog1.hold.1; obtain ⟨y0, y1⟩ := hog2.hold.pt (.head _); obtain ⟨z0, z1⟩ := hog2.hold.fz (.head _); have hog3 := Og.mkSet hog2.hold r1 r2 r3)
     refine hK.out _ _ ?_ (fun hHeld => ?_)
     focus ((try dsimp only); exact HKX.out _ _ _ _ _ _ _ _ hog2; done)
     clear hK K
     (try simp only [Act.put, jA, jB, jC, jD, jE, jF])
     refine tZ 4 ?_; refine tZ 5 ?_; refine tZ 6 ?_
     refine wpAnyH_ready (rs := [7]) (by decide +kernel) (by simp) ?_
     refine AllReadyH.cons rfl (fun K hK => ?_) AllReadyH.nil
     (try simp only [jA, jB, jC])
     go_simp
     refine hK.out _ _ ?_ (fun hHeld => ?_)
     focus ((try dsimp only); exact HKX.out _ _ _ _ _ _ _ _ hog3; done)
     clear hK K
     (try simp only [Act.put, jA, jB, jC, jD, jE, jF])
     refine tZ 8 ?_
     refine wpAnyH_done (by decide +kernel) ?_ _
     go_wp2_with fail
     go_meet
     exact ⟨A3, c3, l3, Ap3, cp3, rfl, hm3, hog3⟩
    case rest =>
     clear hm2 hog hogd HKX HCL HOW e0 f0
     obtain ⟨A2, c2, l2, Ap2, cp2, rfl, hm2, hog⟩ := hcut
     generalize hWc : wc = W5 at *
     clear hWc
     by_cases hz : er2 = 0
     ·have HOKX := Lib.hid (HOK2.out hz)
      subst hz
      obtain ⟨⟨hln0, hle⟩, hP, hQ, howq⟩ := HOKX.out
      have hlen : l2.length = l.length := by
       have := congrArg List.length hm2
       rw [List.length_map, hln0, List.length_map] at this
       exact this
      rw [hlen] at hog
      have hl64 : l.length ≤ 64 := by
       have := hP.fine.2.2.2.1
       rwa [List.length_map] at this
      have hsm := (HSM2.out).1
      have HPQ : Hid (∀ W, Below W5.heap.size W5 W → PlanAt W on2 A2 c2 l2 Ap2 cp2) := fun W hb => (hog.on hb).plan hlen.symm (by omega) ((HRG2.out) l2 hm2)
      have hownq : ∀ x ∈ l2, x.par.own.size ≤ maxLen := fun x hx => howq x.par (by rw [← hm2]; exact List.mem_map_of_mem hx)
      have HCK : Hid (∀ W, Below W5.heap.size W5 W → Calls Tryz.prog 18 #[.agg #[.slice A2 on2.length c2, .slice Ap2 l.length cp2]] W fun e' w' => e' = .returned (.bool true) ∧ Below W.heap.size W w') := fun W hb => by
       have hx := ref_chk on2 A2 c2 l2 Ap2 cp2 (by omega) (by omega) hownq W (HPQ.out W hb).prs (HPQ.out W hb).out
       rw [chkQ_of, hm2, (chkQ_iff _ _).2 hQ, hlen] at hx
       exact hx
      have HP4 : Hid (∀ W, Below W5.heap.size W5 W → PlanAt W o Ao co l Ap cp) := fun W hb => HPL.out W (hog.on hb).hold.1
      have HPE := Lib.hid hP.each
      have HQE := Lib.hid hQ.each
      have HM2 := Lib.hid hm2
      have HLE := Lib.hid hle
      have HLQ : Hid (qs2.length = l.length) := by unfold Hid; rw [hln0, List.length_map]
      have HOG4 : Hid (∀ K W, Hold W5 K W → (W.cell? ⟨g7, 0, none⟩ = some (.slice A2 on2.length c2) ∧ W.cell? ⟨g7, 1, none⟩ = some (.slice Ap2 l.length cp2)) ∧ (W.cell? ⟨g5, 0, none⟩ = some (.int .i64 z.1) ∧ W.cell? ⟨g5, 1, none⟩ = some (.int .i64 z.2)) ∧ (W.cell? ⟨g3, 0, none⟩ = some (.slice Ao o.length co) ∧ W.cell? ⟨g3, 1, none⟩ = some (.slice Ap l.length cp))) := fun K W hh => by
       have h1 := (hog.on hh.1).hold
       exact ⟨h1.pt (.head _), h1.pt (.tail _ (.head _)), h1.pt (.tail _ (.tail _ (.tail _ (.head _))))⟩
      have HEND : Hid (∀ K W, Hold W5 K W → Below w.heap.size w W) := fun K W hh => (hog.on hh.1).hold.1
      have HZ := Hold.refl W5
      have HL64 := Lib.hid hl64
      clear hln0 hle hP hQ howq hlen hog hsm hownq hm2 hl64
      go_wp2_with fail
      go_loopg [9] l.length (fun g i wr => ∃ k : Nat, k ≤ l.length ∧ g = l.length - k ∧ i = .int .i64 k ∧ Hold W5 [] wr)
      case atStart => exact ⟨0, Nat.zero_le _, rfl, rfl, HZ⟩
      case round =>
       clear HZ
       obtain ⟨k, hk, hgk, rfl, HB⟩ := hrel
       have HGK := Lib.hid hgk
       clear hgk
       obtain ⟨⟨-, c1⟩, -, -, c5⟩ := HOG4.out _ _ HB
       by_cases hlt : k < l.length
       ·have hlt2 : k < l2.length := by
         have h1 := HLE.out k (by rw [List.length_map]; exact hlt)
         have := congrArg List.length HM2.out
         rw [List.length_map] at this
         have hq := HLQ.out
         omega
        obtain ⟨ad, hA, -⟩ := (HP4.out _ HB.1).prs.at hlt
        obtain ⟨ad2, hA2, -⟩ := (HPQ.out _ HB.1).prs.at hlt2
        have HW : Hid (∀ W, Below wr.heap.size wr W → Hold W5 [] W) := fun W hb => HB.on hb
        have HDX := Lib.hid (fun W (hb : Below wr.heap.size wr W) => Prs.cells hA (HP4.out W (HW.out W hb).1).prs (List.getElem?_eq_getElem hlt) (Below.refl _ W))
        have HDY := Lib.hid (fun W (hb : Below wr.heap.size wr W) => Prs.cells hA2 (HPQ.out W (HW.out W hb).1).prs (List.getElem?_eq_getElem hlt2) (Below.refl _ W))
        have hmx := List.mem_map_of_mem (f := PV.par) (List.getElem_mem hlt)
        have hmy := List.mem_map_of_mem (f := PV.par) (List.getElem_mem hlt2)
        rw [HM2.out] at hmy
        have hnx := HPE.out _ hmx
        have hny := HQE.out _ hmy
        have hkq : k < qs2.length := by rw [← HM2.out, List.length_map]; exact hlt2
        have hy : l2[k].par = qs2[k] := by
         have h1 := List.getElem_of_eq HM2.out (i := k) (by rw [List.length_map]; exact hlt2)
         rw [List.getElem_map] at h1
         exact h1
        obtain ⟨i1, i2, i3⟩ := HLE.out k (by rw [List.length_map]; exact hlt) hkq
        rw [← hy, List.getElem_map] at i1 i2 i3
        have HAX := Lib.hid (fun W (hb : Below wr.heap.size wr W) => ref_area_good l[k].par.ring l[k].A l[k].cap (normP_small hnx).1 W ((HP4.out W (HW.out W hb).1).prs.2 _ (List.getElem_mem hlt)).1)
        have HAY := Lib.hid (fun W (hb : Below wr.heap.size wr W) => ref_area_good l2[k].par.ring l2[k].A l2[k].cap (normP_small hny).1 W ((HPQ.out W (HW.out W hb).1).prs.2 _ (List.getElem_mem hlt2)).1)
        have HSX := Lib.hid (fun W (hb : Below wr.heap.size wr W) => ref_side l[k].par.ring l[k].A l[k].cap z (by have := (normP_small hnx).2.1; unfold maxLen; omega) (gdL_iff.2 (normP_small hnx).2.2) (gd_iff.1 HGD.out) W ((HP4.out W (HW.out W hb).1).prs.2 _ (List.getElem_mem hlt)).1)
        have HSY := Lib.hid (fun W (hb : Below wr.heap.size wr W) => ref_side l2[k].par.ring l2[k].A l2[k].cap z (by have := (normP_small hny).2.1; unfold maxLen; omega) (gdL_iff.2 (normP_small hny).2.2) (gd_iff.1 HGD.out) W ((HPQ.out W (HW.out W hb).1).prs.2 _ (List.getElem_mem hlt2)).1)
        rw [i2] at HAY
        rw [i3] at HSY
        rw [i1] at HDY
        have b2 : (0 : Int) ≤ (k : Int) := by omega
        have b3 : (k : Int) < (l.length : Int) := by omega
        have b4 : (l.length : Int) ≤ 64 := by have := HL64.out; omega
        subst hA
        subst hA2
        have HK : Hid (∀ W, Below wr.heap.size wr W → (W.cell? ⟨g3, 1, none⟩ = some (.slice (some ad) l.length cp) ∧ W.cell? ⟨g7, 1, none⟩ = some (.slice (some ad2) l.length cp2) ∧ W.cell? ⟨g5, 0, none⟩ = some (.int .i64 z.1) ∧ W.cell? ⟨g5, 1, none⟩ = some (.int .i64 z.2)) ∧ (W.cell? (ad.add (k * 3)) = some (.int .i64 l[k].par.id) ∧ W.cell? ⟨(ad.add (k * 3)).block, (ad.add (k * 3)).off + 1, none⟩ = some (.slice l[k].A l[k].par.ring.length l[k].cap)) ∧ W.cell? (ad2.add (k * 3)) = some (.int .i64 l[k].par.id) ∧ W.cell? ⟨(ad2.add (k * 3)).block, (ad2.add (k * 3)).off + 1, none⟩ = some (.slice l2[k].A l2[k].par.ring.length l2[k].cap)) := fun W hb => by
         obtain ⟨⟨-, x1⟩, ⟨x2, x3⟩, -, x4⟩ := HOG4.out _ _ (HW.out W hb)
         exact ⟨⟨x4, x1, x2, x3⟩, ⟨(HDX.out W hb).1, (HDX.out W hb).2.1⟩, (HDY.out W hb).1, (HDY.out W hb).2.1⟩
        clear HDX HDY hmx hmy hnx hny i1 i2 i3 hy hkq
        generalize l[k].par.ring = xr at *
        generalize l[k].par.id = xi at *
        generalize l[k].A = xA at *
        generalize l[k].cap = xc at *
        generalize l2[k].par.ring = yr at *
        generalize l2[k].A = yA at *
        generalize l2[k].cap = yc at *
        generalize hax : area xr = ax at *
        generalize hsx : side xr z = sx at *
        clear hax hsx
        obtain ⟨⟨x0, x1, -, -⟩, ⟨-, x2⟩, -⟩ := HK.out _ (Below.refl _ _)
        have HBR := Lib.hid (Below.refl wr.heap.size wr)
        clear HB HPE HQE HPQ HP4 HLE HM2
        go_wp2_with fail
        go_at_call 22
        refine (HAX.out _ HBR.out).mono ?_
        rintro e' W11 ⟨rfl, hB⟩
        have hb11 := HBR.out.trans (hB.mono HBR.out.size)
        have HB12 := Lib.hid (hb11.alloc hb11.size (Obj.cells #[.int .i64 (hiOf ax), .int .u64 (loOf ax)] 41 (0, 0)))
        have h20 := ((Hold.refl wr).on hB).new #[.int .i64 (hiOf ax), .int .u64 (loOf ax)] 41
        clear x0 x1 x2 hB hb11 HAX c1 c5
        go_upto_region 14 with (fail)
        generalize (World.alloc _ _) = W12 at h20 HB12 ⊢
        generalize W11.heap.size = g12 at h20 ⊢
        obtain ⟨⟨-, x0, -, -⟩, -, -, x2⟩ := HK.out _ HB12.out
        have HQ12 := Lib.hid h20
        clear h20
        go_wp2_with fail
        go_at_call 22
        refine (HAY.out _ HB12.out).mono ?_
        rintro e' W13 ⟨rfl, hB⟩
        have h21 := (HQ12.out.on hB).new #[.int .i64 (hiOf ax), .int .u64 (loOf ax)] 41
        clear x0 x2 hB HAY HQ12 HB12
        go_upto_region 15 with (fail)
        generalize (World.alloc _ _) = W14 at h21 ⊢
        generalize W13.heap.size = g14 at h21 ⊢
        have HQ14 := Lib.hid h21
        have h22 := h21.drew
        clear h21
        have HKD : Hid (∀ L W, Hold wr ((g14, #[.int .i64 (hiOf ax), .int .u64 (loOf ax)], 41) :: (g12, #[.int .i64 (hiOf ax), .int .u64 (loOf ax)], 41) :: L) W → ((W.cell? ⟨g3, 1, none⟩ = some (.slice (some ad) l.length cp) ∧ W.cell? ⟨g7, 1, none⟩ = some (.slice (some ad2) l.length cp2) ∧ W.cell? ⟨g5, 0, none⟩ = some (.int .i64 z.1) ∧ W.cell? ⟨g5, 1, none⟩ = some (.int .i64 z.2)) ∧ (W.cell? (ad.add (k * 3)) = some (.int .i64 xi) ∧ W.cell? ⟨(ad.add (k * 3)).block, (ad.add (k * 3)).off + 1, none⟩ = some (.slice xA xr.length xc)) ∧ W.cell? (ad2.add (k * 3)) = some (.int .i64 xi) ∧ W.cell? ⟨(ad2.add (k * 3)).block, (ad2.add (k * 3)).off + 1, none⟩ = some (.slice yA yr.length yc)) ∧ (W.cell? ⟨g14, 0, none⟩ = some (.int .i64 (hiOf ax)) ∧ W.cell? ⟨g14, 1, none⟩ = some (.int .u64 (loOf ax))) ∧ W.cell? ⟨g12, 0, none⟩ = some (.int .i64 (hiOf ax)) ∧ W.cell? ⟨g12, 1, none⟩ = some (.int .u64 (loOf ax))) := fun L W hh => ⟨HK.out W hh.1, hh.pt (.head _), hh.pt (.tail _ (.head _))⟩
        refine wp_region_held_drew (S := fun W => ((W.cell? ⟨g3, 1, none⟩ = some (.slice (some ad) l.length cp) ∧ W.cell? ⟨g7, 1, none⟩ = some (.slice (some ad2) l.length cp2) ∧ W.cell? ⟨g5, 0, none⟩ = some (.int .i64 z.1) ∧ W.cell? ⟨g5, 1, none⟩ = some (.int .i64 z.2)) ∧ (W.cell? (ad.add (k * 3)) = some (.int .i64 xi) ∧ W.cell? ⟨(ad.add (k * 3)).block, (ad.add (k * 3)).off + 1, none⟩ = some (.slice xA xr.length xc)) ∧ W.cell? (ad2.add (k * 3)) = some (.int .i64 xi) ∧ W.cell? ⟨(ad2.add (k * 3)).block, (ad2.add (k * 3)).off + 1, none⟩ = some (.slice yA yr.length yc)) ∧ (W.cell? ⟨g14, 0, none⟩ = some (.int .i64 (hiOf ax)) ∧ W.cell? ⟨g14, 1, none⟩ = some (.int .u64 (loOf ax))) ∧ W.cell? ⟨g12, 0, none⟩ = some (.int .i64 (hiOf ax)) ∧ W.cell? ⟨g12, 1, none⟩ = some (.int .u64 (loOf ax))) (by kernel_rfl) ?_ (fun hHeld => ?_)
        ·(try dsimp only)
         exact HKD.out _ _ h22
        refine tZ 0 ?_; refine tZ 1 ?_; refine tZ 2 ?_; refine tZ 3 ?_; refine tZ 4 ?_; refine tZ 5 ?_; refine tZ 6 ?_; refine tZ 7 ?_; refine tZ 8 ?_; refine tZ 9 ?_; refine tZ 10 ?_; refine tZ 11 ?_; refine tZ 12 ?_; refine tZ 13 ?_; refine tZ 14 ?_; refine tZ 15 ?_; refine tZ 16 ?_; refine tZ 17 ?_; refine tZ 18 ?_; refine tZ 19 ?_; refine tZ 20 ?_; refine tZ 21 ?_; refine tZ 22 ?_; refine tZ 23 ?_; refine tZ 24 ?_; refine tZ 25 ?_; refine tZ 27 ?_; refine tZ 28 ?_; refine tZ 29 ?_; refine tZ 30 ?_; refine tZ 31 ?_; refine tZ 32 ?_; refine tZ 33 ?_
        refine wpAnyH_ready (rs := [26]) (by decide +kernel) (by simp) ?_
        refine AllReadyH.cons rfl (fun K hK => ?_) AllReadyH.nil
        (try simp only [jA, jB, jC])
        go_simp
        (go_at_call 25; refine (HSX.out _ h22.1).mono ?_; rintro e' W15 ⟨rfl, hB⟩; have h23 := h22.on hB)
        refine hK.out _ _ ?_ (fun hHeld => ?_)
        focus ((try dsimp only); exact HKD.out _ _ h23; done)
        clear hK K
        (try simp only [Act.put, jA, jB, jC, jD, jE, jF])
        refine wpAnyH_ready (rs := [34]) (by decide +kernel) (by simp) ?_
        refine AllReadyH.cons rfl (fun K hK => ?_) AllReadyH.nil
        (try simp only [jA, jB, jC])
        go_simp
        (go_at_call 25; refine (HSY.out _ h23.1).mono ?_; rintro e' W16 ⟨rfl, hB⟩; have h24 := h23.on hB)
        refine hK.out _ _ ?_ (fun hHeld => ?_)
        focus ((try dsimp only); exact HKD.out _ _ h24; done)
        clear hK K
        (try simp only [Act.put, jA, jB, jC, jD, jE, jF])
        refine tZ 35 ?_; refine tZ 36 ?_
        refine wpAnyH_done (by decide +kernel) ?_ _
        have HFIN := Lib.hid (HW.out _ h24.1)
        go_wp2_with fail
        go_roundg (l.length - (k + 1))
        case measure => have := HGK.out; omega
        case rel => exact ⟨k + 1, by omega, rfl, by go_num, HFIN.out⟩
       ·obtain rfl : k = l.length := by omega
        have b0 : ¬ ((l.length : Int) < (l.length : Int)) := by omega
        obtain ⟨⟨c0, -⟩, -, -, -⟩ := HOG4.out _ _ HB
        have HQ7 := Lib.hid HB
        clear HB
        go_wp2_with fail
        go_at_call 18
        refine (HCK.out _ HQ7.out.1).mono ?_
        rintro e' W8 ⟨rfl, hB⟩
        have h14 := HQ7.out.on hB
        clear c0 c1 c5 hB
        obtain ⟨⟨c0, c1⟩, -, c4, c5⟩ := HOG4.out _ _ h14
        have HE := Lib.hid (HEND.out _ _ h14)
        clear h14
        go_wp2
        go_ret
        exact ⟨rfl, HG3.out ▸ HE.out⟩
     ·have e0 : (er2 == 0) = false := by simpa using hz
      have f0 : ¬ er2 = 0 := hz
      have HE := Lib.hid hog.hold.1
      clear HOK2 HRG2 HSM2 hz hog HPL HOWN
      go_wp2
      go_ret
      exact ⟨rfl, HG3.out ▸ HE.out⟩
end Go.Proofs.YtfjfmieadedjoaaGreat
