/- The walk of PlanEdges. -/
import Derived.Test.YtbcmnhbpomjinaaGreatFindsM
namespace Go.Proofs.YtbcmnhbpomjinaaGreat
open Go.RowKit
theorem rem_place {a n : Nat} (hn : 0 < n) : ∃ k : Nat, k < n ∧ a % n = k ∧ (a : Int) % (n : Int) = (k : Int) ∧ (a : Int).tmod (n : Int) = (k : Int) := by
  refine ⟨a % n, Nat.mod_lt _ hn, rfl, ?_, ?_⟩
  · rw [Int.natCast_emod]
  · rw [Int.tmod_eq_emod_of_nonneg (by omega), Int.natCast_emod]
set_option maxRecDepth 100000 in
set_option maxHeartbeats 2000000 in
theorem edges_walk (o : List (Int × Int)) (Ao : Option Addr) (co : Nat) (l : List PV) (Ap : Option Addr) (cp : Nat) (which at' : Nat) (hw : which ≤ 255) (ha : at' ≤ 255) (hl : l.length ≤ 8796093022208) (hown : ∀ x ∈ l, x.par.own.size ≤ maxLen) (w : World) (h : PlanAt w o Ao co l Ap cp) :
    Calls Tryz.prog 7 #[.agg #[.slice Ao o.length co, .slice Ap l.length cp], .int .u8 which, .int .u8 at'] w fun e w' => e = .returned (.bool true) ∧ Below w.heap.size w w' := by
  have hlo : o.length ≤ 8796093022208 := by have := h.room; omega
  have HAN := Lib.hid (fun W => plan_answers W)
  have HSM := Lib.hid (fun W (hb : Below w.heap.size w W) => small_any o Ao co l Ap cp hlo W (h.prs.on hb))
  have HOW := Lib.hid (fun W (hb : Below w.heap.size w W) (hll : l.length ≤ 1000000) => Own_any o Ao co l Ap cp hll W (h.on hb))
  have HLF := Lib.hid (fun W A1 c1 l' Ap1 cp1 (hll : l.length ≤ 1000000) e (he : OkE e) (hm : l'.map PV.par = l.map PV.par) (hp : PlanAt W o A1 c1 l' Ap1 cp1) => owned_left e he hll hlo hown hm hp)
  have HCN := Lib.hid (fun W A1 c1 l' Ap1 cp1 (hll : l.length ≤ 1000000) p (hm : l'.map PV.par = l.map PV.par) (hp : PlanAt W o A1 c1 l' Ap1 cp1) => owned_corner p hll hlo hown hm hp)
  have HRC := Lib.hid (fun W (hb : Below w.heap.size w W) (hll : l.length ≤ 1000000) (h4 : o.length ≤ 400) => ref_chk o Ao co l Ap cp hll (by omega) hown W (h.prs.on hb) (h.out.on hb))
  have HPR := Lib.hid (fun W (hb : Below w.heap.size w W) => h.prs.on hb)
  have HRE := Lib.hid (fun W (hb : Below w.heap.size w W) (h4 : o.length ≤ 400) => ref_edges o Ao co (by omega) W (h.out.on hb))
  have HQ := (Hold.refl w).new #[.slice Ao o.length co, .slice Ap l.length cp] 26
  have wz1 := wrap_in (n := (which : Int)) (by omega) (by omega)
  have wz2 := wrap_in (n := (at' : Int)) (by omega) (by omega)
  clear h hown hlo
  go_enter Tryz.func7, Tryz.ntmps7
  go_upto_region 1 with (fail)
  generalize (World.alloc _ _) = W1 at HQ ⊢
  generalize w.heap.size = g0 at HQ ⊢
  have HQX := Lib.hid HQ
  clear HQ
  go_wp2_with fail
  go_at_call 14
  refine (HAN.out _).mono ?_
  rintro e W2 ⟨rfl, hB⟩
  have hq := HQX.out.on hB
  have HQ2 := Lib.hid hq
  obtain ⟨c0, c1⟩ := hq.pt (.head _)
  clear hB hq
  go_wp2_with fail
  go_at_call 15
  refine (HSM.out _ HQ2.out.1).mono ?_
  rintro e W3 ⟨b, rfl, hsm, hB⟩
  have hq := HQ2.out.on hB
  have HQ3 := Lib.hid hq
  have HS := Lib.hid hsm
  clear hB c0 c1 hsm
  obtain ⟨c0, c1⟩ := hq.pt (.head _)
  clear hq
  cases b
  · go_wp2_with (go_at_call 14; go_must (refine (HAN.out _).mono ?_; rintro e' W4 ⟨rfl, hB⟩; have HB4 := Lib.hid (HQ3.out.on hB).1; clear hB))
    go_ret
    exact ⟨rfl, HB4.out⟩
  · obtain ⟨s1, s2, s3⟩ := HS.out rfl
    have HL1 : Hid (l.length ≤ 1000000) := by unfold Hid; omega
    have HO4 := Lib.hid s1
    clear s1 s2 s3 HS
    have HRX := Lib.hid (fun W hb => HRC.out W hb HL1.out HO4.out)
    cases hcb : chkB o l
    · rw [hcb] at HRX
      clear hcb
      go_wp2_with fail
      go_at_call 20
      refine (HRX.out _ HQ3.out.1).mono ?_
      rintro e' W4 ⟨rfl, hB⟩
      have HQ4 := Lib.hid (HQ3.out.on hB)
      clear hB c0 c1
      go_wp2_with (go_at_call 14; go_must (refine (HAN.out _).mono ?_; rintro e' W5 ⟨rfl, hB⟩; have HB5 := Lib.hid (HQ4.out.on hB).1; clear hB))
      go_ret
      exact ⟨rfl, HB5.out⟩
    · rw [hcb] at HRX
      have hcp := chkB_iff.1 hcb
      have HCP := Lib.hid hcp
      clear hcb
      obtain ⟨k, hk, ek, e2, e3⟩ := rem_place (a := which) hcp.1.2.1
      have hx : l[k] ∈ l := List.getElem_mem hk
      have hsd := (norm_sound (check_ring hcp hx)).1
      obtain ⟨j, hj, ej, e4, e5⟩ := rem_place (a := at') (n := l[k].par.ring.length) (by omega)
      have HED := Lib.hid (edge_says hcp hx (e := (nx l[k].par.ring j, nx l[k].par.ring (j + 1))) (mem_edg.2 ⟨j, hj, rfl⟩))
      have hgd := edg_gd (check_pts hcp l[k] hx) (e := (nx l[k].par.ring j, nx l[k].par.ring (j + 1))) (mem_edg.2 ⟨j, hj, rfl⟩)
      have HOK : Hid (OkE (nx l[k].par.ring j, nx l[k].par.ring (j + 1))) := okE_of hgd.1 hgd.2
      have HOB : Hid (OkE (bk (nx l[k].par.ring j, nx l[k].par.ring (j + 1)))) := okE_of hgd.2 hgd.1
      have hsm := normP_small (check_ring hcp hx)
      have HPX := Lib.hid (fun W (hb : Below w.heap.size w W) => ((HPR.out W hb).2 l[k] hx).1)
      have HER := Lib.hid (fun W (hb : Below w.heap.size w W) => ref_edges l[k].par.ring l[k].A l[k].cap (by omega) W (HPX.out W hb))
      have HEG : Hid ((edg l[k].par.ring)[j]? = some (nx l[k].par.ring j, nx l[k].par.ring (j + 1))) := by unfold Hid edg; rw [List.getElem?_map, List.getElem?_range hj]; rfl
      have HEL := Lib.hid (edg_len l[k].par.ring)
      have HXL := Lib.hid hx
      clear hx hsd hgd hsm
      go_wp2_with fail
      go_at_call 20
      refine (HRX.out _ HQ3.out.1).mono ?_
      rintro e' W4 ⟨rfl, hB⟩
      have hq := HQ3.out.on hB
      have HQ4 := Lib.hid hq
      clear hB c0 c1
      obtain ⟨c0, c1⟩ := hq.pt (.head _)
      obtain ⟨ad, hA, -, d0, d1, d2⟩ := (HPR.out _ hq.1).at hk
      have HD := Lib.hid (fun W (hB : Below W4.heap.size W4 W) => Prs.cells hA (HPR.out _ hq.1) (List.getElem?_eq_getElem hk) hB)
      subst hA
      clear hq
      have z1 : ¬ (l.length : Int) = 0 := by omega
      have z7 : ¬ l.length = 0 := by omega
      have z8 : ¬ l = [] := fun e => z7 (by rw [e]; rfl)
      have z9 : ((l.length : Int) == 0) = false := by rw [beq_eq_false_iff_ne]; omega
      have b0 : (0 : Int) ≤ (k : Int) := by omega
      have b1 : (k : Int) < (l.length : Int) := by omega
      have wk := wrap_in (n := (k : Int)) (by omega) (by omega)
      generalize l[k] = x at *
      have HNA := Lib.hid (fun (cs : Array Value) (t : TypeId) => (Below.refl _ W4).alloc (Nat.le_refl _) (.cells cs t (0, 0)))
      have a0 : ∀ (cs : Array Value) (t : TypeId), (W4.alloc (Obj.cells cs t (0, 0))).cell? ⟨g0, 0, none⟩ = some (.slice Ao o.length co) := fun cs t => ((HQ4.out.alloc _).pt (.head _)).1
      have a1 : ∀ (cs : Array Value) (t : TypeId), (W4.alloc (Obj.cells cs t (0, 0))).cell? ⟨g0, 1, none⟩ = some (.slice (some ad) l.length cp) := fun cs t => ((HQ4.out.alloc _).pt (.head _)).2
      have a2 : ∀ (cs : Array Value) (t : TypeId), (W4.alloc (Obj.cells cs t (0, 0))).cell? (ad.add (k * 3)) = some (.int .i64 x.par.id) := fun cs t => (HD.out _ (HNA.out cs t)).1
      have a3 : ∀ (cs : Array Value) (t : TypeId), (W4.alloc (Obj.cells cs t (0, 0))).cell? ⟨(ad.add (k * 3)).block, (ad.add (k * 3)).off + 1, none⟩ = some (.slice x.A x.par.ring.length x.cap) := fun cs t => (HD.out _ (HNA.out cs t)).2.1
      have a4 : ∀ (cs : Array Value) (t : TypeId), (W4.alloc (Obj.cells cs t (0, 0))).cell? ⟨(ad.add (k * 3)).block, (ad.add (k * 3)).off + 2, none⟩ = some (.string x.par.own) := fun cs t => (HD.out _ (HNA.out cs t)).2.2
      have a5 : ∀ (cs : Array Value) (t : TypeId) (i : Nat), (W4.alloc (Obj.cells cs t (0, 0))).frozen? ⟨W4.heap.size, i, none⟩ = false := fun cs t i => blk_frozen (heap_alloc_new W4 _) i
      have a6 : ∀ (u0 u1 u2 : Value) (t : TypeId), (W4.alloc (Obj.cells #[u0, u1, u2] t (0, 0))).cell? ⟨W4.heap.size, 0, none⟩ = some u0 ∧ (W4.alloc (Obj.cells #[u0, u1, u2] t (0, 0))).cell? ⟨W4.heap.size, 1, none⟩ = some u1 ∧ (W4.alloc (Obj.cells #[u0, u1, u2] t (0, 0))).cell? ⟨W4.heap.size, 2, none⟩ = some u2 := fun u0 u1 u2 t => ⟨blk_cell (heap_alloc_new W4 _) 0, blk_cell (heap_alloc_new W4 _) 1, blk_cell (heap_alloc_new W4 _) 2⟩
      obtain ⟨a7, a8, a9⟩ : (∀ (u0 u1 u2 : Value) (t : TypeId), (W4.alloc (Obj.cells #[u0, u1, u2] t (0, 0))).cell? ⟨W4.heap.size, 0, none⟩ = some u0) ∧ (∀ (u0 u1 u2 : Value) (t : TypeId), (W4.alloc (Obj.cells #[u0, u1, u2] t (0, 0))).cell? ⟨W4.heap.size, 1, none⟩ = some u1) ∧ (∀ (u0 u1 u2 : Value) (t : TypeId), (W4.alloc (Obj.cells #[u0, u1, u2] t (0, 0))).cell? ⟨W4.heap.size, 2, none⟩ = some u2) := ⟨fun u0 u1 u2 t => (a6 u0 u1 u2 t).1, fun u0 u1 u2 t => (a6 u0 u1 u2 t).2.1, fun u0 u1 u2 t => (a6 u0 u1 u2 t).2.2⟩
      clear a6
      go_upto_region 3 with (fail)
      go_region
      have hq5 := (HQ4.out.new #[.int .i64 x.par.id, .slice x.A x.par.ring.length x.cap, .string x.par.own] 34).drew
      clear a0 a1 a2 a3 a4 a5 a7 a8 a9 d0 d1 d2 c0 c1 HNA HD
      generalize (World.drew (World.alloc _ _)) = W5 at hq5 ⊢
      generalize W4.heap.size = g7 at hq5 ⊢
      have HQ5 := Lib.hid hq5
      have hj255 : j ≤ 255 := by rw [← ej]; exact Nat.le_trans (Nat.mod_le _ _) ha
      have y0 := wrap_in (n := (j : Int)) (by omega) (by omega)
      have y1 : (0 : Int) ≤ (j : Int) := by omega
      have y2 : (j : Int) < (x.par.ring.length : Int) := by omega
      have y3 : ¬ (x.par.ring.length : Int) = 0 := by omega
      have y4 : ¬ x.par.ring.length = 0 := by omega
      have y5 : ¬ x.par.ring = [] := fun e => y4 (by rw [e]; rfl)
      have y6 : ((x.par.ring.length : Int) == 0) = false := by rw [beq_eq_false_iff_ne]; omega
      clear z1 z7 z8 z9 b0 b1 wk wz1 e2 e3 ek ej hq5
      have HEC : Hid (∀ W (A : Option Addr), Items W W.heap.size A encG (edg x.par.ring) → ∃ ae : Addr, A = some ae ∧ ∀ W', Below W.heap.size W W' → W'.cell? (ae.add (j * 4)) = some (.int .i64 (nx x.par.ring j).1) ∧ W'.cell? ⟨(ae.add (j * 4)).block, (ae.add (j * 4)).off + 1, none⟩ = some (.int .i64 (nx x.par.ring j).2) ∧ W'.cell? ⟨(ae.add (j * 4)).block, (ae.add (j * 4)).off + 2, none⟩ = some (.int .i64 (nx x.par.ring (j + 1)).1) ∧ W'.cell? ⟨(ae.add (j * 4)).block, (ae.add (j * 4)).off + 3, none⟩ = some (.int .i64 (nx x.par.ring (j + 1)).2)) := fun W A hi => by
        have hj' : j < (edg x.par.ring).length := by rw [HEL.out]; exact hj
        obtain ⟨ae, hae, -⟩ := hi.at kindG.len hj'
        refine ⟨ae, hae, fun W' hb => ?_⟩
        obtain ⟨ae', e', -, h0, h1⟩ := (hi.on hb).at kindG.len hj'
        obtain rfl := Option.some.inj (hae.symm.trans e')
        have hge : (edg x.par.ring)[j] = (nx x.par.ring j, nx x.par.ring (j + 1)) := by have := HEG.out; rw [List.getElem?_eq_getElem hj'] at this; exact Option.some.inj this
        rw [hge] at h0 h1
        exact ⟨h0 _ (by decide) rfl, h1 1 _ (by decide) (by decide) rfl, h1 2 _ (by decide) (by decide) rfl, h1 3 _ (by decide) (by decide) rfl⟩
      have HLE : Hid (((edg x.par.ring).length : Int) = (x.par.ring.length : Int)) := by unfold Hid; rw [HEL.out]
      have HEN := HLE.out
      clear HEG HEL HLE
      generalize edg x.par.ring = es at *
      generalize nx x.par.ring j = a at *
      generalize nx x.par.ring (j + 1) = b at *
      have y7 : (j : Int) < (es.length : Int) := by omega
      go_upto_region 4 with (fail)
      go_cut [8] (fun s8 wx => ∃ g8, s8 = .pointer (some ⟨g8, 0, none⟩) ∧ Hold w [(g8, #[.int .i64 (a, b).1.1, .int .i64 (a, b).1.2, .int .i64 (a, b).2.1, .int .i64 (a, b).2.2], 30), (g7, #[.int .i64 x.par.id, .slice x.A x.par.ring.length x.cap, .string x.par.own], 34), (g0, #[.slice Ao o.length co, .slice (some ad) l.length cp], 26)] wx)
      case first =>
        have HK1 := Lib.hid (fun W (h : Hold w [(g7, #[.int .i64 x.par.id, .slice x.A x.par.ring.length x.cap, .string x.par.own], 34), (g0, #[.slice Ao o.length co, .slice (some ad) l.length cp], 26)] W) => (show W.cell? ⟨g7, 1, none⟩ = some (.slice x.A x.par.ring.length x.cap) from h.cell (.head _) 1))
        have HK2 := Lib.hid (fun W g8 cs (h : Hold w [(g8, cs, 30), (g7, #[.int .i64 x.par.id, .slice x.A x.par.ring.length x.cap, .string x.par.own], 34), (g0, #[.slice Ao o.length co, .slice (some ad) l.length cp], 26)] W) => (show W.cell? ⟨g7, 1, none⟩ = some (.slice x.A x.par.ring.length x.cap) from h.cell (.tail _ (.head _)) 1))
        have HF4 := Lib.hid (fun W g8 cs (h : Hold w [(g8, cs, 30), (g7, #[.int .i64 x.par.id, .slice x.A x.par.ring.length x.cap, .string x.par.own], 34), (g0, #[.slice Ao o.length co, .slice (some ad) l.length cp], 26)] W) => (show W.frozen? ⟨g8, 0, none⟩ = false ∧ W.frozen? ⟨g8, 1, none⟩ = false ∧ W.frozen? ⟨g8, 2, none⟩ = false ∧ W.frozen? ⟨g8, 3, none⟩ = false from ⟨h.frozen (.head _) 0, h.frozen (.head _) 1, h.frozen (.head _) 2, h.frozen (.head _) 3⟩))
        have hH := HQ5.out.drew
        have hH5 := HQ5.out
        clear HQ5
        refine wp_region_held_drew (S := fun W => W.cell? ⟨g7, 1, none⟩ = some (.slice x.A x.par.ring.length x.cap)) (by kernel_rfl) ?_ (fun hHeld => ?_)
        · (try dsimp only)
          exact HK1.out _ hH
        refine takeSome (i := 0) (v := ?_) (by decide +kernel) rfl (by rfl) (by decide +kernel) (by decide +kernel) (fun _ _ _ h => h) (by assumption) ?_ ?_
        rotate_left
        focus (intro w0 hSw; (try dsimp only at hSw); go_simp; (try (with_reducible rfl)); done)
        (try simp only [Act.put, List.getElem_toArray, List.getElem_cons_zero, List.setIfInBounds_toArray, List.set_cons_zero, List.set_cons_succ])
        refine takeSome (i := 1) (v := ?_) (by decide +kernel) rfl (by rfl) (by decide +kernel) (by decide +kernel) (fun _ _ _ h => h) (by assumption) ?_ ?_
        rotate_left
        focus (intro w0 hSw; (try dsimp only at hSw); go_simp; (try (with_reducible rfl)); done)
        (try simp only [Act.put, List.getElem_toArray, List.getElem_cons_zero, List.getElem_cons_succ, List.setIfInBounds_toArray, List.set_cons_zero, List.set_cons_succ])
        refine takeSome (i := 3) (v := ?_) (by decide +kernel) rfl (by rfl) (by decide +kernel) (by decide +kernel) (fun _ _ _ h => h) (by assumption) ?_ ?_
        rotate_left
        focus (intro w0 hSw; (try dsimp only at hSw); go_simp; (try (with_reducible rfl)); done)
        (try simp only [Act.put, List.getElem_toArray, List.getElem_cons_zero, List.getElem_cons_succ, List.setIfInBounds_toArray, List.set_cons_zero, List.set_cons_succ])
        refine takeSome (i := 4) (v := ?_) (by decide +kernel) rfl (by rfl) (by decide +kernel) (by decide +kernel) (fun _ _ _ h => h) (by assumption) ?_ ?_
        rotate_left
        focus (intro w0 hSw; (try dsimp only at hSw); go_simp; (try (with_reducible rfl)); done)
        (try simp only [Act.put, List.getElem_toArray, List.getElem_cons_zero, List.getElem_cons_succ, List.setIfInBounds_toArray, List.set_cons_zero, List.set_cons_succ])
        refine takeSome (i := 5) (v := ?_) (by decide +kernel) rfl (by rfl) (by decide +kernel) (by decide +kernel) (fun _ _ _ h => h) (by assumption) ?_ ?_
        rotate_left
        focus (intro w0 hSw; (try dsimp only at hSw); go_simp; (try (with_reducible rfl)); done)
        (try simp only [Act.put, List.getElem_toArray, List.getElem_cons_zero, List.getElem_cons_succ, List.setIfInBounds_toArray, List.set_cons_zero, List.set_cons_succ])
        refine takeSome (i := 6) (v := ?_) (by decide +kernel) rfl (by rfl) (by decide +kernel) (by decide +kernel) (fun _ _ _ h => h) (by assumption) ?_ ?_
        rotate_left
        focus (intro w0 hSw; (try dsimp only at hSw); go_simp; (try (with_reducible rfl)); done)
        (try simp only [Act.put, List.getElem_toArray, List.getElem_cons_zero, List.getElem_cons_succ, List.setIfInBounds_toArray, List.set_cons_zero, List.set_cons_succ])
        refine takeSome (i := 7) (v := ?_) (by decide +kernel) rfl (by rfl) (by decide +kernel) (by decide +kernel) (fun _ _ _ h => h) (by assumption) ?_ ?_
        rotate_left
        focus (intro w0 hSw; (try dsimp only at hSw); go_simp; (try (with_reducible rfl)); done)
        (try simp only [Act.put, List.getElem_toArray, List.getElem_cons_zero, List.getElem_cons_succ, List.setIfInBounds_toArray, List.set_cons_zero, List.set_cons_succ])
        refine takeSome (i := 8) (v := ?_) (by decide +kernel) rfl (by rfl) (by decide +kernel) (by decide +kernel) (fun _ _ _ h => h) (by assumption) ?_ ?_
        rotate_left
        focus (intro w0 hSw; (try dsimp only at hSw); go_simp; (try (with_reducible rfl)); done)
        (try simp only [Act.put, List.getElem_toArray, List.getElem_cons_zero, List.getElem_cons_succ, List.setIfInBounds_toArray, List.set_cons_zero, List.set_cons_succ])
        refine wpAnyH_ready (rs := [2, 11]) (by decide +kernel) (by simp) ?_
        refine AllReadyH.cons rfl (fun K hK => ?_) (AllReadyH.cons rfl (fun K hK => ?_) AllReadyH.nil)
        · (try simp only [List.getElem_toArray, List.getElem_cons_zero, List.getElem_cons_succ])
          go_simp
          go_at_call 26
          refine (HER.out _ (Hold.below0 hH)).mono ?_
          rintro e' W6 ⟨v, rfl, hv⟩
          obtain ⟨A6, c6, rfl, hi6, -⟩ := hv.items
          have hq6 := hH.on hv.1
          obtain ⟨ae, rfl, hc⟩ := HEC.out _ _ hi6
          have HC := Lib.hid hc
          obtain ⟨k0, k1, k2, k3⟩ := hc _ (Below.refl _ _)
          clear hc hi6 hv
          refine hK.out _ _ ?_ (fun hHeld => ?_)
          focus ((try dsimp only); exact HK1.out _ hq6; done)
          clear hK K
          (try simp only [Act.put, List.getElem_toArray, List.getElem_cons_zero, List.getElem_cons_succ, List.setIfInBounds_toArray, List.set_cons_zero, List.set_cons_succ])
          refine takeSome (i := 9) (v := ?_) (by decide +kernel) rfl (by rfl) (by decide +kernel) (by decide +kernel) (fun _ _ _ h => h) (by assumption) ?_ ?_
          rotate_left
          focus (intro w0 hSw; (try dsimp only at hSw); go_simp; (try (with_reducible rfl)); done)
          (try simp only [Act.put, List.getElem_toArray, List.getElem_cons_zero, List.getElem_cons_succ, List.setIfInBounds_toArray, List.set_cons_zero, List.set_cons_succ])
          refine wpAnyH_ready (rs := [10, 11]) (by decide +kernel) (by simp) ?_
          refine AllReadyH.cons rfl (fun K hK => ?_) (AllReadyH.cons rfl (fun K hK => ?_) AllReadyH.nil)
          · (try simp only [List.getElem_toArray, List.getElem_cons_zero, List.getElem_cons_succ])
            go_simp
            refine hK.out _ _ ?_ (fun hHeld => ?_)
            focus ((try dsimp only); exact HK1.out _ hq6; done)
            clear hK K
            (try simp only [Act.put, List.getElem_toArray, List.getElem_cons_zero, List.getElem_cons_succ, List.setIfInBounds_toArray, List.set_cons_zero, List.set_cons_succ])
            refine wpAnyH_ready (rs := [11]) (by decide +kernel) (by simp) ?_
            refine AllReadyH.cons rfl (fun K hK => ?_) AllReadyH.nil
            (try simp only [List.getElem_toArray, List.getElem_cons_zero, List.getElem_cons_succ])
            go_simp
            refine hK.out _ _ ?_ (fun hHeld => ?_)
            focus ((try dsimp only); exact HK2.out _ _ _ (hq6.new _ _); done)
            clear hK K
            (try simp only [Act.put, List.getElem_toArray, List.getElem_cons_zero, List.getElem_cons_succ, List.setIfInBounds_toArray, List.set_cons_zero, List.set_cons_succ])
            have h7 := hq6.new #[.int .i64 0, .int .i64 0, .int .i64 0, .int .i64 0] 30
            generalize (World.alloc _ _) = W7 at h7 hHeld ⊢
            generalize W6.heap.size = g8 at h7 ⊢
            obtain ⟨f1, f2, f3, f4⟩ := HF4.out _ _ _ h7
            have u1 := h7.cell (.head _) 0
            have u2 := h7.cell (.head _) 1
            have u3 := h7.cell (.head _) 2
            have u4 := h7.cell (.head _) 3
            simp only [List.getElem?_toArray, List.getElem?_cons_zero, List.getElem?_cons_succ] at u1 u2 u3 u4
            refine wpAnyH_ready (rs := [12]) (by decide +kernel) (by simp) ?_
            refine AllReadyH.cons rfl (fun K hK => ?_) AllReadyH.nil
            (try simp only [List.getElem_toArray, List.getElem_cons_zero, List.getElem_cons_succ])
            go_simp
            refine hK.out _ _ ?_ (fun hHeld => ?_)
            focus ((try dsimp only); exact HK2.out _ _ _ ((((h7.set 0 (.int .i64 a.1)).set 1 (.int .i64 a.2)).set 2 (.int .i64 b.1)).set 3 (.int .i64 b.2)); done)
            clear hK K
            (try simp only [Act.put, List.getElem_toArray, List.getElem_cons_zero, List.getElem_cons_succ, List.setIfInBounds_toArray, List.set_cons_zero, List.set_cons_succ])
            refine wpAnyH_done (by decide +kernel) ?_ _
            go_wp2_with fail
            go_meet
            exact ⟨_, rfl, (((h7.set 0 (.int .i64 a.1)).set 1 (.int .i64 a.2)).set 2 (.int .i64 b.1)).set 3 (.int .i64 b.2)⟩
          · (try simp only [List.getElem_toArray, List.getElem_cons_zero, List.getElem_cons_succ])
            go_simp
            refine hK.out _ _ ?_ (fun hHeld => ?_)
            focus ((try dsimp only); exact HK2.out _ _ _ (hq6.new _ _); done)
            clear hK K
            (try simp only [Act.put, List.getElem_toArray, List.getElem_cons_zero, List.getElem_cons_succ, List.setIfInBounds_toArray, List.set_cons_zero, List.set_cons_succ])
            clear k0 k1 k2 k3
            have h7 := hq6.new #[.int .i64 0, .int .i64 0, .int .i64 0, .int .i64 0] 30
            obtain ⟨k0, k1, k2, k3⟩ := HC.out _ ((Below.refl _ W6).alloc (Nat.le_refl _) (.cells #[.int .i64 0, .int .i64 0, .int .i64 0, .int .i64 0] 30 (0, 0)))
            generalize (World.alloc _ _) = W7 at h7 hHeld k0 k1 k2 k3 ⊢
            generalize W6.heap.size = g8 at h7 ⊢
            refine wpAnyH_ready (rs := [10]) (by decide +kernel) (by simp) ?_
            refine AllReadyH.cons rfl (fun K hK => ?_) AllReadyH.nil
            (try simp only [List.getElem_toArray, List.getElem_cons_zero, List.getElem_cons_succ])
            go_simp
            refine hK.out _ _ ?_ (fun hHeld => ?_)
            focus ((try dsimp only); exact HK2.out _ _ _ h7; done)
            clear hK K
            (try simp only [Act.put, List.getElem_toArray, List.getElem_cons_zero, List.getElem_cons_succ, List.setIfInBounds_toArray, List.set_cons_zero, List.set_cons_succ])
            obtain ⟨f1, f2, f3, f4⟩ := HF4.out _ _ _ h7
            have u1 := h7.cell (.head _) 0
            have u2 := h7.cell (.head _) 1
            have u3 := h7.cell (.head _) 2
            have u4 := h7.cell (.head _) 3
            simp only [List.getElem?_toArray, List.getElem?_cons_zero, List.getElem?_cons_succ] at u1 u2 u3 u4
            refine wpAnyH_ready (rs := [12]) (by decide +kernel) (by simp) ?_
            refine AllReadyH.cons rfl (fun K hK => ?_) AllReadyH.nil
            (try simp only [List.getElem_toArray, List.getElem_cons_zero, List.getElem_cons_succ])
            go_simp
            refine hK.out _ _ ?_ (fun hHeld => ?_)
            focus ((try dsimp only); exact HK2.out _ _ _ ((((h7.set 0 (.int .i64 a.1)).set 1 (.int .i64 a.2)).set 2 (.int .i64 b.1)).set 3 (.int .i64 b.2)); done)
            clear hK K
            (try simp only [Act.put, List.getElem_toArray, List.getElem_cons_zero, List.getElem_cons_succ, List.setIfInBounds_toArray, List.set_cons_zero, List.set_cons_succ])
            refine wpAnyH_done (by decide +kernel) ?_ _
            go_wp2_with fail
            go_meet
            exact ⟨_, rfl, (((h7.set 0 (.int .i64 a.1)).set 1 (.int .i64 a.2)).set 2 (.int .i64 b.1)).set 3 (.int .i64 b.2)⟩
        · (try simp only [List.getElem_toArray, List.getElem_cons_zero, List.getElem_cons_succ])
          go_simp
          refine hK.out _ _ ?_ (fun hHeld => ?_)
          focus ((try dsimp only); exact HK2.out _ _ _ (hH.new _ _); done)
          clear hK K
          (try simp only [Act.put, List.getElem_toArray, List.getElem_cons_zero, List.getElem_cons_succ, List.setIfInBounds_toArray, List.set_cons_zero, List.set_cons_succ])
          have h6 := (hH5.new #[.int .i64 0, .int .i64 0, .int .i64 0, .int .i64 0] 30).drew
          generalize (World.drew (World.alloc _ _)) = Wb at h6 hHeld ⊢
          generalize W5.heap.size = g8 at h6 ⊢
          refine wpAnyH_ready (rs := [2]) (by decide +kernel) (by simp) ?_
          refine AllReadyH.cons rfl (fun K hK => ?_) AllReadyH.nil
          (try simp only [List.getElem_toArray, List.getElem_cons_zero, List.getElem_cons_succ])
          go_simp
          go_at_call 26
          refine (HER.out _ (Hold.below0 h6)).mono ?_
          rintro e' W6 ⟨v, rfl, hv⟩
          obtain ⟨A6, c6, rfl, hi6, -⟩ := hv.items
          have hq6 := h6.on hv.1
          obtain ⟨ae, rfl, hc⟩ := HEC.out _ _ hi6
          have HC := Lib.hid hc
          obtain ⟨k0, k1, k2, k3⟩ := hc _ (Below.refl _ _)
          clear hc hi6 hv
          refine hK.out _ _ ?_ (fun hHeld => ?_)
          focus ((try dsimp only); exact HK2.out _ _ _ hq6; done)
          clear hK K
          (try simp only [Act.put, List.getElem_toArray, List.getElem_cons_zero, List.getElem_cons_succ, List.setIfInBounds_toArray, List.set_cons_zero, List.set_cons_succ])
          refine takeSome (i := 9) (v := ?_) (by decide +kernel) rfl (by rfl) (by decide +kernel) (by decide +kernel) (fun _ _ _ h => h) (by assumption) ?_ ?_
          rotate_left
          focus (intro w0 hSw; (try dsimp only at hSw); go_simp; (try (with_reducible rfl)); done)
          (try simp only [Act.put, List.getElem_toArray, List.getElem_cons_zero, List.getElem_cons_succ, List.setIfInBounds_toArray, List.set_cons_zero, List.set_cons_succ])
          refine wpAnyH_ready (rs := [10]) (by decide +kernel) (by simp) ?_
          refine AllReadyH.cons rfl (fun K hK => ?_) AllReadyH.nil
          (try simp only [List.getElem_toArray, List.getElem_cons_zero, List.getElem_cons_succ])
          go_simp
          refine hK.out _ _ ?_ (fun hHeld => ?_)
          focus ((try dsimp only); exact HK2.out _ _ _ hq6; done)
          clear hK K
          (try simp only [Act.put, List.getElem_toArray, List.getElem_cons_zero, List.getElem_cons_succ, List.setIfInBounds_toArray, List.set_cons_zero, List.set_cons_succ])
          obtain ⟨f1, f2, f3, f4⟩ := HF4.out _ _ _ hq6
          have u1 := hq6.cell (.head _) 0
          have u2 := hq6.cell (.head _) 1
          have u3 := hq6.cell (.head _) 2
          have u4 := hq6.cell (.head _) 3
          simp only [List.getElem?_toArray, List.getElem?_cons_zero, List.getElem?_cons_succ] at u1 u2 u3 u4
          refine wpAnyH_ready (rs := [12]) (by decide +kernel) (by simp) ?_
          refine AllReadyH.cons rfl (fun K hK => ?_) AllReadyH.nil
          (try simp only [List.getElem_toArray, List.getElem_cons_zero, List.getElem_cons_succ])
          go_simp
          refine hK.out _ _ ?_ (fun hHeld => ?_)
          focus ((try dsimp only); exact HK2.out _ _ _ ((((hq6.set 0 (.int .i64 a.1)).set 1 (.int .i64 a.2)).set 2 (.int .i64 b.1)).set 3 (.int .i64 b.2)); done)
          clear hK K
          (try simp only [Act.put, List.getElem_toArray, List.getElem_cons_zero, List.getElem_cons_succ, List.setIfInBounds_toArray, List.set_cons_zero, List.set_cons_succ])
          refine wpAnyH_done (by decide +kernel) ?_ _
          go_wp2_with fail
          go_meet
          exact ⟨_, rfl, (((hq6.set 0 (.int .i64 a.1)).set 1 (.int .i64 a.2)).set 2 (.int .i64 b.1)).set 3 (.int .i64 b.2)⟩
      case rest =>
        obtain ⟨g8, rfl, HB5⟩ := hcut
        have HQ8 := Lib.hid HB5
        obtain ⟨q1, q2, q3, q4, hbk⟩ := HED.out
        have hL := fun W A1 c1 l' Ap1 cp1 hm hp => HLF.out W A1 c1 l' Ap1 cp1 HL1.out (a, b) HOK.out hm hp
        have hBk := fun W A1 c1 l' Ap1 cp1 hm hp => HLF.out W A1 c1 l' Ap1 cp1 HL1.out (bk (a, b)) HOB.out hm hp
        have hC := fun W A1 c1 l' Ap1 cp1 hm hp => HCN.out W A1 c1 l' Ap1 cp1 HL1.out a hm hp
        simp only [q1, q2] at hL
        have q3' : cnV o l a = true := q3
        have q4' : cnE o l a = 0 := q4
        simp only [q3', q4'] at hC
        have ebk : bk (a, b) = (b, a) := rfl
        simp only [ebk] at hBk hbk
        have HLE := Lib.hid hL
        have HBK := Lib.hid hBk
        have HCO := Lib.hid hC
        have HDJ := Lib.hid hbk
        have HOL := Lib.hid (fun W hb => HOW.out W hb HL1.out)
        have HPO := Lib.hid (fun W hb => HRE.out W hb HO4.out)
        have HPC := Lib.hid (fun (es : List ((Int × Int) × (Int × Int))) A cap (hn : es.length ≤ 1000000) W (hr : Items W W.heap.size A encG es) => ref_place es A cap (a, b) hn W hr)
        have HOEL : Hid ((edg o).length ≤ 1000000) := by unfold Hid; rw [edg_len]; have := HO4.out; omega
        have HIDP := Lib.hid (check_pos HCP.out (show x ∈ l from HXL.out)).1
        generalize lfV o l (b, a) = lv at *
        generalize lfE o l (b, a) = le at *
        clear q1 q2 q3 q4 q3' q4' ebk hL hBk hC hbk HED HOK HOB HLF HCN HOW HRE HRC HRX HER HEC HPX HPR HSM HAN HQ5 HQ4 HQ3 HQ2 HQX y0 y1 y2 y3 y4 y5 y6 y7 wz2 e4 e5 HEN HCP
        have HKK := Lib.hid (fun W (h : Hold w [(g8, #[.int .i64 (a, b).1.1, .int .i64 (a, b).1.2, .int .i64 (a, b).2.1, .int .i64 (a, b).2.2], 30), (g7, #[.int .i64 x.par.id, .slice x.A x.par.ring.length x.cap, .string x.par.own], 34), (g0, #[.slice Ao o.length co, .slice (some ad) l.length cp], 26)] W) => (show (W.cell? ⟨g0, 0, none⟩ = some (.slice Ao o.length co) ∧ W.cell? ⟨g0, 1, none⟩ = some (.slice (some ad) l.length cp)) ∧ W.cell? ⟨g8, 0, none⟩ = some (.int .i64 a.1) ∧ W.cell? ⟨g8, 1, none⟩ = some (.int .i64 a.2) ∧ W.cell? ⟨g8, 2, none⟩ = some (.int .i64 b.1) ∧ W.cell? ⟨g8, 3, none⟩ = some (.int .i64 b.2) from ⟨h.pt (.tail _ (.tail _ (.head _))), h.cell (.head _) 0, h.cell (.head _) 1, h.cell (.head _) 2, h.cell (.head _) 3⟩))
        go_upto_region 5 with (fail)
        go_cut [9, 10] (fun s9 s10 wx => s9 = .int .i64 x.par.id ∧ s10 = .int .i64 0 ∧ Hold w [(g8, #[.int .i64 (a, b).1.1, .int .i64 (a, b).1.2, .int .i64 (a, b).2.1, .int .i64 (a, b).2.2], 30), (g7, #[.int .i64 x.par.id, .slice x.A x.par.ring.length x.cap, .string x.par.own], 34), (g0, #[.slice Ao o.length co, .slice (some ad) l.length cp], 26)] wx)
        case first =>
          clear HQ8 HBK HCO HDJ HPO HPC HOEL HIDP
          go_region_held3 (fun W => (W.cell? ⟨g0, 0, none⟩ = some (.slice Ao o.length co) ∧ W.cell? ⟨g0, 1, none⟩ = some (.slice (some ad) l.length cp)) ∧ W.cell? ⟨g8, 0, none⟩ = some (.int .i64 a.1) ∧ W.cell? ⟨g8, 1, none⟩ = some (.int .i64 a.2) ∧ W.cell? ⟨g8, 2, none⟩ = some (.int .i64 b.1) ∧ W.cell? ⟨g8, 3, none⟩ = some (.int .i64 b.2)) (first | exact HKK.out _ (by assumption) | exact HKK.out _ (Hold.drew (by assumption))) ((first
            | (go_at_call 17; (with_reducible refine (HOL.out _ (Hold.below0 (by first | assumption | exact Hold.drew (by assumption)))).mono ?_); rintro e' W6 ⟨hB6, A1, cA, l', Ap1, cp1, rfl, hm', hp'⟩; have HS6 := Hold.on (by first | assumption | exact Hold.drew (by assumption)) hB6)
            | (go_at_call 19; (with_reducible refine (HLE.out _ _ _ _ _ _ (by assumption) (by assumption)).mono ?_); rintro e' W7 ⟨rfl, hB7⟩; have HS7 := Hold.on (by first | assumption | exact Hold.drew (by assumption)) hB7)))
          go_wp2_with fail
          go_meet
          exact ⟨rfl, rfl, HS7⟩
        case rest =>
          obtain ⟨rfl, rfl, HB6⟩ := hcut
          clear HQ8 HB5 HLE
          obtain ⟨⟨c0, c1⟩, u1, u2, u3, u4⟩ := HKK.out _ HB6
          have hq7 := HB6.new #[.int .i64 (b, a).1.1, .int .i64 (b, a).1.2, .int .i64 (b, a).2.1, .int .i64 (b, a).2.2] 30
          go_upto_region 7 with (fail)
          clear c0 c1 u1 u2 u3 u4
          generalize (World.alloc _ _) = W7 at hq7 ⊢
          generalize wc.heap.size = g11 at hq7 ⊢
          clear HB6 HKK
          have HKJ := Lib.hid (fun W (h : Hold w [(g11, #[.int .i64 (b, a).1.1, .int .i64 (b, a).1.2, .int .i64 (b, a).2.1, .int .i64 (b, a).2.2], 30), (g8, #[.int .i64 (a, b).1.1, .int .i64 (a, b).1.2, .int .i64 (a, b).2.1, .int .i64 (a, b).2.2], 30), (g7, #[.int .i64 x.par.id, .slice x.A x.par.ring.length x.cap, .string x.par.own], 34), (g0, #[.slice Ao o.length co, .slice (some ad) l.length cp], 26)] W) => (show (W.cell? ⟨g0, 0, none⟩ = some (.slice Ao o.length co) ∧ W.cell? ⟨g0, 1, none⟩ = some (.slice (some ad) l.length cp)) ∧ W.cell? ⟨g11, 0, none⟩ = some (.int .i64 b.1) ∧ W.cell? ⟨g11, 1, none⟩ = some (.int .i64 b.2) ∧ W.cell? ⟨g11, 2, none⟩ = some (.int .i64 a.1) ∧ W.cell? ⟨g11, 3, none⟩ = some (.int .i64 a.2) from ⟨h.pt (.tail _ (.tail _ (.tail _ (.head _)))), h.cell (.head _) 0, h.cell (.head _) 1, h.cell (.head _) 2, h.cell (.head _) 3⟩))
          have HKP := Lib.hid (fun W (h : Hold w [(g11, #[.int .i64 (b, a).1.1, .int .i64 (b, a).1.2, .int .i64 (b, a).2.1, .int .i64 (b, a).2.2], 30), (g8, #[.int .i64 (a, b).1.1, .int .i64 (a, b).1.2, .int .i64 (a, b).2.1, .int .i64 (a, b).2.2], 30), (g7, #[.int .i64 x.par.id, .slice x.A x.par.ring.length x.cap, .string x.par.own], 34), (g0, #[.slice Ao o.length co, .slice (some ad) l.length cp], 26)] W) => (show (W.cell? ⟨g0, 0, none⟩ = some (.slice Ao o.length co) ∧ W.cell? ⟨g0, 1, none⟩ = some (.slice (some ad) l.length cp)) ∧ W.cell? ⟨g8, 0, none⟩ = some (.int .i64 a.1) ∧ W.cell? ⟨g8, 1, none⟩ = some (.int .i64 a.2) ∧ W.cell? ⟨g8, 2, none⟩ = some (.int .i64 b.1) ∧ W.cell? ⟨g8, 3, none⟩ = some (.int .i64 b.2) from ⟨h.pt (.tail _ (.tail _ (.tail _ (.head _)))), h.cell (.tail _ (.head _)) 0, h.cell (.tail _ (.head _)) 1, h.cell (.tail _ (.head _)) 2, h.cell (.tail _ (.head _)) 3⟩))
          go_cut [12, 13] (fun s12 s13 wx => s12 = .int .i64 lv ∧ s13 = .int .i64 le ∧ Hold w [(g11, #[.int .i64 (b, a).1.1, .int .i64 (b, a).1.2, .int .i64 (b, a).2.1, .int .i64 (b, a).2.2], 30), (g8, #[.int .i64 (a, b).1.1, .int .i64 (a, b).1.2, .int .i64 (a, b).2.1, .int .i64 (a, b).2.2], 30), (g7, #[.int .i64 x.par.id, .slice x.A x.par.ring.length x.cap, .string x.par.own], 34), (g0, #[.slice Ao o.length co, .slice (some ad) l.length cp], 26)] wx)
          case first =>
            clear HCO HDJ HPO HPC HOEL HIDP HKP
            go_region_held3 (fun W => (W.cell? ⟨g0, 0, none⟩ = some (.slice Ao o.length co) ∧ W.cell? ⟨g0, 1, none⟩ = some (.slice (some ad) l.length cp)) ∧ W.cell? ⟨g11, 0, none⟩ = some (.int .i64 b.1) ∧ W.cell? ⟨g11, 1, none⟩ = some (.int .i64 b.2) ∧ W.cell? ⟨g11, 2, none⟩ = some (.int .i64 a.1) ∧ W.cell? ⟨g11, 3, none⟩ = some (.int .i64 a.2)) (first | exact HKJ.out _ (by assumption) | exact HKJ.out _ (Hold.drew (by assumption))) ((first
              | (go_at_call 17; (with_reducible refine (HOL.out _ (Hold.below0 (by first | assumption | exact Hold.drew (by assumption)))).mono ?_); rintro e' W6 ⟨hB6, A1, cA, l', Ap1, cp1, rfl, hm', hp'⟩; have HS6 := Hold.on (by first | assumption | exact Hold.drew (by assumption)) hB6)
              | (go_at_call 19; (with_reducible refine (HBK.out _ _ _ _ _ _ (by assumption) (by assumption)).mono ?_); rintro e' W7 ⟨rfl, hB7⟩; have HS7 := Hold.on (by first | assumption | exact Hold.drew (by assumption)) hB7)))
            go_wp2_with fail
            go_meet
            exact ⟨rfl, rfl, HS7⟩
          case rest =>
            obtain ⟨rfl, rfl, hq8⟩ := hcut
            clear hq7 HKJ HBK
            go_upto_region 8 with (fail)
            go_cut [14, 15] (fun s14 s15 wx => s14 = .bool true ∧ s15 = .int .i64 0 ∧ Hold w [(g11, #[.int .i64 (b, a).1.1, .int .i64 (b, a).1.2, .int .i64 (b, a).2.1, .int .i64 (b, a).2.2], 30), (g8, #[.int .i64 (a, b).1.1, .int .i64 (a, b).1.2, .int .i64 (a, b).2.1, .int .i64 (a, b).2.2], 30), (g7, #[.int .i64 x.par.id, .slice x.A x.par.ring.length x.cap, .string x.par.own], 34), (g0, #[.slice Ao o.length co, .slice (some ad) l.length cp], 26)] wx)
            case first =>
              clear HDJ HPO HPC HOEL HIDP
              go_region_held3 (fun W => (W.cell? ⟨g0, 0, none⟩ = some (.slice Ao o.length co) ∧ W.cell? ⟨g0, 1, none⟩ = some (.slice (some ad) l.length cp)) ∧ W.cell? ⟨g8, 0, none⟩ = some (.int .i64 a.1) ∧ W.cell? ⟨g8, 1, none⟩ = some (.int .i64 a.2) ∧ W.cell? ⟨g8, 2, none⟩ = some (.int .i64 b.1) ∧ W.cell? ⟨g8, 3, none⟩ = some (.int .i64 b.2)) (first | exact HKP.out _ (by assumption) | exact HKP.out _ (Hold.drew (by assumption))) ((first
                | (go_at_call 17; (with_reducible refine (HOL.out _ (Hold.below0 (by first | assumption | exact Hold.drew (by assumption)))).mono ?_); rintro e' W6 ⟨hB6, A1, cA, l', Ap1, cp1, rfl, hm', hp'⟩; have HS6 := Hold.on (by first | assumption | exact Hold.drew (by assumption)) hB6)
                | (go_at_call 18; (with_reducible refine (HCO.out _ _ _ _ _ _ (by assumption) (by assumption)).mono ?_); rintro e' W7 ⟨rfl, hB7⟩; have HS7 := Hold.on (by first | assumption | exact Hold.drew (by assumption)) hB7)))
              go_wp2_with fail
              go_meet
              exact ⟨rfl, rfl, HS7⟩
            case rest =>
              obtain ⟨rfl, rfl, hq9⟩ := hcut
              clear hq8 HCO HOL
              go_upto_region 9 with (fail)
              go_cut [16] (fun s16 wx => ∃ t : Bool, s16 = .bool t ∧ (t = true ↔ (a, b) ∈ edg o) ∧ Hold w [(g11, #[.int .i64 (b, a).1.1, .int .i64 (b, a).1.2, .int .i64 (b, a).2.1, .int .i64 (b, a).2.2], 30), (g8, #[.int .i64 (a, b).1.1, .int .i64 (a, b).1.2, .int .i64 (a, b).2.1, .int .i64 (a, b).2.2], 30), (g7, #[.int .i64 x.par.id, .slice x.A x.par.ring.length x.cap, .string x.par.own], 34), (g0, #[.slice Ao o.length co, .slice (some ad) l.length cp], 26)] wx)
              case first =>
                clear HDJ HIDP
                generalize edg o = eo at *
                go_region_held3 (fun W => (W.cell? ⟨g0, 0, none⟩ = some (.slice Ao o.length co) ∧ W.cell? ⟨g0, 1, none⟩ = some (.slice (some ad) l.length cp)) ∧ W.cell? ⟨g8, 0, none⟩ = some (.int .i64 a.1) ∧ W.cell? ⟨g8, 1, none⟩ = some (.int .i64 a.2) ∧ W.cell? ⟨g8, 2, none⟩ = some (.int .i64 b.1) ∧ W.cell? ⟨g8, 3, none⟩ = some (.int .i64 b.2)) (first | exact HKP.out _ (by assumption) | exact HKP.out _ (Hold.drew (by assumption))) ((first
                  | (go_at_call 26; (with_reducible refine (HPO.out _ (Hold.below0 (by first | assumption | exact Hold.drew (by assumption)))).mono ?_); rintro e' W6 ⟨v, rfl, hv⟩; obtain ⟨A6, c6, rfl, hi6, -⟩ := hv.items; have HS6 := Hold.on (by first | assumption | exact Hold.drew (by assumption)) hv.1; clear hv)
                  | (go_at_call 25; (with_reducible refine (HPC.out _ _ _ HOEL.out _ (by assumption)).mono ?_); rintro e' W7 ⟨n, rfl, hn, hB7⟩; have HPL := Lib.hid hn.pos; clear hn; have HS7 := Hold.on (by first | assumption | exact Hold.drew (by assumption)) hB7)))
                go_wp2_with fail
                go_meet
                exact ⟨_, rfl, by rw [decide_eq_true_eq]; exact HPL.out, HS7⟩
              case rest =>
                obtain ⟨t, rfl, ht, hq10⟩ := hcut
                have i0 := hq10.cell (.tail _ (.tail _ (.head _))) 0
                simp only [List.getElem?_toArray, List.getElem?_cons_zero] at i0
                have HB10 := Lib.hid hq10.1
                have hid := HIDP.out
                clear hq9 hq10 HKP HPO HPC HOEL
                have e1 : (x.par.id == x.par.id) = true := by simp
                rcases HDJ.out with ⟨h1, rfl, rfl⟩ | ⟨h1, n, h2, h3, rfl, rfl⟩
                · obtain rfl : t = true := ht.2 h1
                  have e2 : ((0 : Int) != x.par.id) = true := by simp; omega
                  have e3 : ((0 : Int) == x.par.id) = false := by simp; omega
                  have HID := Lib.hid hid
                  clear h1 ht hid HDJ HIDP
                  generalize x.par.id = id at *
                  go_wp2
                  go_ret
                  exact ⟨rfl, HB10.out⟩
                · obtain rfl : t = false := by
                    cases t
                    · rfl
                    · exact absurd (ht.1 rfl) h1
                  have e2 : (lv != x.par.id) = true := by simpa using h3
                  have e3 : (lv == x.par.id) = false := by simpa using h3
                  have e4 : (lv == 0) = false := by simp; omega
                  clear h1 ht h2 h3 hid HDJ HIDP
                  generalize x.par.id = id at *
                  go_wp2
                  go_ret
                  exact ⟨rfl, HB10.out⟩
end Go.Proofs.YtbcmnhbpomjinaaGreat
