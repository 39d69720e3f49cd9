/- The walk of PlanChanges. -/
import Derived.Test.YtbcmnhbpomjinaaGreatChgH
import Derived.Test.YtbcmnhbpomjinaaGreatRefChg
import Derived.Test.YtbcmnhbpomjinaaGreatRefInts
import Derived.Test.YtbcmnhbpomjinaaGreatPlanB
namespace Go.Proofs.YtbcmnhbpomjinaaGreat
open Go.RowKit
theorem nd_len : ∀ {l m : List Int}, l.Nodup → (∀ x ∈ l, x ∈ m) → l.length ≤ m.length
  | [], _, _, _ => Nat.zero_le _
  | a :: l, m, hn, hs => by
    obtain ⟨h1, h2⟩ := List.nodup_cons.1 hn
    have ha := hs a List.mem_cons_self
    have h3 := nd_len (m := m.erase a) h2 fun x hx => (List.mem_erase_of_ne (fun e => h1 (by rw [← e]; exact hx))).2 (hs x (List.mem_cons_of_mem _ hx))
    have h4 := List.length_erase_of_mem ha
    have h5 := List.length_pos_of_mem ha
    rw [List.length_cons]
    omega
theorem len_par {l l' : List PV} (h : l'.map PV.par = l.map PV.par) : l'.length = l.length := by have := congrArg List.length h; rwa [List.length_map, List.length_map] at this
theorem ring_corn {o : List (Int × Int)} {l : List PV} {x : PV} (hx : x ∈ l) : x.par.ring.length ≤ cornN o l l.length := by
  obtain ⟨k, hk, rfl⟩ := List.mem_iff_getElem.1 hx
  have h1 := cornN_succ (o := o) (List.getElem?_eq_getElem hk)
  have h2 := cornN_mono (o := o) (l := l) (show k + 1 ≤ l.length by omega)
  omega
theorem owned_changed {w : World} {o o2 : List (Int × Int)} {l l1' l2 l2' : List PV} {A1 P1 A2 P2 : Option Addr} {c1 d1 c2 d2 : Nat} (hl : l.length ≤ 1000) (hl2 : l2.length ≤ 1000) (hid : ∀ x ∈ l, In64 x.par.id ∧ x.par.ring.length ≤ 1000000) (hid2 : ∀ x ∈ l2, In64 x.par.id ∧ x.par.ring.length ≤ 1000000)
    (hm1 : l1'.map PV.par = l.map PV.par) (h1 : PlanAt w o A1 c1 l1' P1 d1) (hm2 : l2'.map PV.par = l2.map PV.par) (h2 : PlanAt w o2 A2 c2 l2' P2 d2) :
    Calls Tryz.prog 30 #[.agg #[.slice A1 o.length c1, .slice P1 l.length d1], .agg #[.slice A2 o2.length c2, .slice P2 l2.length d2]] w fun e w' => ∃ zs : List Int, zs.Pairwise (· < ·) ∧ (∀ n, n ∈ zs ↔ ChP (l.map PV.par) (l2.map PV.par) n) ∧ Below w.heap.size w w' ∧ ∃ A cap, e = .returned (.slice A zs.length cap) ∧ Items w' w'.heap.size A encN zs := by
  have hmem : ∀ {a b : List PV}, a.map PV.par = b.map PV.par → (∀ x ∈ b, In64 x.par.id ∧ x.par.ring.length ≤ 1000000) → ∀ x ∈ a, In64 x.par.id ∧ x.par.ring.length ≤ 1000000 := fun {a b} hab hb x hx => by
    have : x.par ∈ b.map PV.par := by rw [← hab]; exact List.mem_map.2 ⟨x, hx, rfl⟩
    obtain ⟨y, hy, e⟩ := List.mem_map.1 this
    rw [← e]
    exact hb y hy
  have := Changed_any o A1 c1 l1' P1 d1 o2 A2 c2 l2' P2 d2 (by rw [len_par hm1]; exact hl) (by rw [len_par hm2]; exact hl2) (hmem hm1 hid) (hmem hm2 hid2) w h1.prs h2.prs
  rw [len_par hm1, len_par hm2, hm1, hm2] at this
  exact this
set_option maxRecDepth 100000 in
set_option maxHeartbeats 2000000 in
theorem changes_walk (o : List (Int × Int)) (Ao : Option Addr) (co : Nat) (l : List PV) (Ap : Option Addr) (cp : Nat) (o2 : List (Int × Int)) (Ao2 : Option Addr) (co2 : Nat) (l2 : List PV) (Ap2 : Option Addr) (cp2 : Nat) (hid : ∀ x ∈ l, In64 x.par.id) (hid2 : ∀ x ∈ l2, In64 x.par.id) (w : World) (h : PlanAt w o Ao co l Ap cp) (h2 : PlanAt w o2 Ao2 co2 l2 Ap2 cp2) :
    Calls Tryz.prog 6 #[.agg #[.slice Ao o.length co, .slice Ap l.length cp], .agg #[.slice Ao2 o2.length co2, .slice Ap2 l2.length cp2]] w fun e w' => e = .returned (.bool true) ∧ Below w.heap.size w w' := by
  have HAN := Lib.hid (fun W => plan_answers W)
  have HSM1 := Lib.hid (fun W (hb : Below w.heap.size w W) => small_any o Ao co l Ap cp (by have := h.room; omega) W (h.prs.on hb))
  have HSM2 := Lib.hid (fun W (hb : Below w.heap.size w W) => small_any o2 Ao2 co2 l2 Ap2 cp2 (by have := h2.room; omega) W (h2.prs.on hb))
  have HOW1 := Lib.hid (fun W (hb : Below w.heap.size w W) (hll : l.length ≤ 1000000) => Own_any o Ao co l Ap cp hll W (h.on hb))
  have HOW2 := Lib.hid (fun W (hb : Below w.heap.size w W) (hll : l2.length ≤ 1000000) => Own_any o2 Ao2 co2 l2 Ap2 cp2 hll W (h2.on hb))
  have HRC := Lib.hid (fun W (hb : Below w.heap.size w W) (h3 : l.length ≤ 1000) (h4 : l2.length ≤ 1000) => ref_changed o Ao co l Ap cp o2 Ao2 co2 l2 Ap2 cp2 h3 h4 W (h.prs.on hb) (h2.prs.on hb))
  have HD1 := Lib.hid hid
  have HD2 := Lib.hid hid2
  have HQ := ((Hold.refl w).new #[.slice Ao o.length co, .slice Ap l.length cp] 26).new #[.slice Ao2 o2.length co2, .slice Ap2 l2.length cp2] 26
  clear h h2 hid hid2
  go_enter Tryz.func6, Tryz.ntmps6
  go_upto_region 1 with (fail)
  simp only [World.size_alloc] at HQ
  generalize (World.alloc _ _) = W1 at HQ ⊢
  obtain ⟨g1, hg1⟩ : ∃ g, w.heap.size + 1 = g := ⟨_, rfl⟩
  rw [hg1] at HQ ⊢
  obtain ⟨g0, hg0⟩ : ∃ g, w.heap.size = g := ⟨_, rfl⟩
  rw [hg0] at HQ ⊢
  clear hg0 hg1
  have HQX := Lib.hid HQ
  clear HQ
  go_wp2_with fail
  go_at_call 14
  refine (HAN.out _).mono ?_
  rintro e W2 ⟨rfl, hB⟩
  have hq := HQX.out.on hB
  have HQ2 := Lib.hid hq
  obtain ⟨c0, c1⟩ := hq.pt (.tail _ (.head _))
  clear hB hq
  go_wp2_with fail
  go_at_call 15
  refine (HSM1.out _ HQ2.out.1).mono ?_
  rintro e W3 ⟨b, rfl, hsm, hB⟩
  have hq := HQ2.out.on hB
  have HQ3 := Lib.hid hq
  have HS := Lib.hid hsm
  clear hB c0 c1 hsm
  obtain ⟨c0, c1⟩ := hq.pt (.tail _ (.head _))
  obtain ⟨c2, c3⟩ := hq.pt (.head _)
  clear hq
  cases b
  · go_wp2_with (go_at_call 14; go_must (refine (HAN.out _).mono ?_; rintro e' W4 ⟨rfl, hB⟩; have HB4 := Lib.hid (HQ3.out.on hB).1; clear hB))
    go_ret
    exact ⟨rfl, HB4.out⟩
  · obtain ⟨s1, s2, s3⟩ := HS.out rfl
    have HL1 : Hid (l.length ≤ 1000000) := by unfold Hid; omega
    have HM1 : Hid (l.length ≤ 1000) := by unfold Hid; omega
    have HI1 : Hid (∀ x ∈ l, In64 x.par.id ∧ x.par.ring.length ≤ 1000000) := fun x hx => ⟨HD1.out x hx, by have := ring_corn (o := o) hx; omega⟩
    clear s1 s2 s3 HS
    go_wp2_with fail
    go_at_call 15
    refine (HSM2.out _ HQ3.out.1).mono ?_
    rintro e W5 ⟨b, rfl, hsm, hB⟩
    have HQ5 := Lib.hid (HQ3.out.on hB)
    have HS := Lib.hid hsm
    clear hB c0 c1 c2 c3 hsm
    cases b
    · go_wp2_with (go_at_call 14; go_must (refine (HAN.out _).mono ?_; rintro e' W4 ⟨rfl, hB⟩; have HB4 := Lib.hid (HQ5.out.on hB).1; clear hB))
      go_ret
      exact ⟨rfl, HB4.out⟩
    obtain ⟨s1, s2, s3⟩ := HS.out rfl
    have HL2 : Hid (l2.length ≤ 1000000) := by unfold Hid; omega
    have HM2 : Hid (l2.length ≤ 1000) := by unfold Hid; omega
    have HI2 : Hid (∀ x ∈ l2, In64 x.par.id ∧ x.par.ring.length ≤ 1000000) := fun x hx => ⟨HD2.out x hx, by have := ring_corn (o := o2) hx; omega⟩
    clear s1 s2 s3 HS
    go_upto_region 3 with (fail)
    go_cut [5] (fun s wx => ∃ zs A cap, s = .slice A zs.length cap ∧ Hid (zs.Pairwise (· < ·)) ∧ Hid (∀ n, n ∈ zs ↔ ChP (l.map PV.par) (l2.map PV.par) n) ∧ Items wx wx.heap.size A encN zs ∧ Hold w [(g1, #[.slice Ao2 o2.length co2, .slice Ap2 l2.length cp2], 26), (g0, #[.slice Ao o.length co, .slice Ap l.length cp], 26)] wx ∧ Below W5.heap.size W5 wx)
    case first =>
      have hH := HQ5.out.drew
      have hb := (Below.refl W5.heap.size W5).drew
      refine wp_region_held_drew (S := fun W => (W.cell? ⟨g0, 0, none⟩ = some (.slice Ao o.length co) ∧ W.cell? ⟨g0, 1, none⟩ = some (.slice Ap l.length cp)) ∧ W.cell? ⟨g1, 0, none⟩ = some (.slice Ao2 o2.length co2) ∧ W.cell? ⟨g1, 1, none⟩ = some (.slice Ap2 l2.length cp2)) (by kernel_rfl) ?_ (fun hHeld => ?_)
      · (try dsimp only)
        exact ⟨⟨hH.cell (.tail _ (.head _)) 0, hH.cell (.tail _ (.head _)) 1⟩, hH.cell (.head _) 0, hH.cell (.head _) 1⟩
      refine takeSome (i := 0) (v := ?_) (by decide +kernel) rfl (by rfl) (by decide +kernel) (by decide +kernel) (fun _ _ _ h => h) (by assumption) ?_ ?_
      rotate_left
      focus (intro w0 hSw; (try dsimp only at hSw); go_simp; (try (with_reducible rfl)); done)
      (try simp only [Act.put, List.getElem_toArray, List.getElem_cons_zero, List.setIfInBounds_toArray, List.set_cons_zero, List.set_cons_succ])
      refine takeSome (i := 2) (v := ?_) (by decide +kernel) rfl (by rfl) (by decide +kernel) (by decide +kernel) (fun _ _ _ h => h) (by assumption) ?_ ?_
      rotate_left
      focus (intro w0 hSw; (try dsimp only at hSw); go_simp; (try (with_reducible rfl)); done)
      (try simp only [Act.put, List.getElem_toArray, List.getElem_cons_zero, List.getElem_cons_succ, List.setIfInBounds_toArray, List.set_cons_zero, List.set_cons_succ])
      refine wpAnyH_ready (rs := [1]) (by decide +kernel) (by simp) ?_
      refine AllReadyH.cons rfl (fun K hK => ?_) AllReadyH.nil
      (try simp only [List.getElem_toArray, List.getElem_cons_zero, List.getElem_cons_succ])
      go_simp
      go_at_call 17
      refine (HOW1.out _ hH.1 HL1.out).mono ?_
      rintro e' W6 ⟨hB6, A6, c6, l6, P6, d6, rfl, hm6, hp6⟩
      have h6 := hH.on hB6
      refine hK.out _ _ ?_ (fun hHeld => ?_)
      focus ((try dsimp only); exact ⟨⟨h6.cell (.tail _ (.head _)) 0, h6.cell (.tail _ (.head _)) 1⟩, h6.cell (.head _) 0, h6.cell (.head _) 1⟩; done)
      clear hK K
      (try simp only [Act.put, List.getElem_toArray, List.getElem_cons_zero, List.getElem_cons_succ, List.setIfInBounds_toArray, List.set_cons_zero, List.set_cons_succ])
      refine wpAnyH_ready (rs := [3]) (by decide +kernel) (by simp) ?_
      refine AllReadyH.cons rfl (fun K hK => ?_) AllReadyH.nil
      (try simp only [List.getElem_toArray, List.getElem_cons_zero, List.getElem_cons_succ])
      go_simp
      go_at_call 17
      refine (HOW2.out _ h6.1 HL2.out).mono ?_
      rintro e' W7 ⟨hB7, A7, c7, l7, P7, d7, rfl, hm7, hp7⟩
      have h7 := h6.on hB7
      have hp6' := hp6.on hB7
      refine hK.out _ _ ?_ (fun hHeld => ?_)
      focus ((try dsimp only); exact ⟨⟨h7.cell (.tail _ (.head _)) 0, h7.cell (.tail _ (.head _)) 1⟩, h7.cell (.head _) 0, h7.cell (.head _) 1⟩; done)
      clear hK K
      (try simp only [Act.put, List.getElem_toArray, List.getElem_cons_zero, List.getElem_cons_succ, List.setIfInBounds_toArray, List.set_cons_zero, List.set_cons_succ])
      refine wpAnyH_ready (rs := [4]) (by decide +kernel) (by simp) ?_
      refine AllReadyH.cons rfl (fun K hK => ?_) AllReadyH.nil
      (try simp only [List.getElem_toArray, List.getElem_cons_zero, List.getElem_cons_succ])
      go_simp
      go_at_call 30
      with_reducible refine (owned_changed HM1.out HM2.out HI1.out HI2.out hm6 hp6' hm7 hp7).mono ?_
      rintro e' W8 ⟨zs, hz1, hz2, hB8, A8, c8, rfl, hi8⟩
      have h8 := h7.on hB8
      refine hK.out _ _ ?_ (fun hHeld => ?_)
      focus ((try dsimp only); exact ⟨⟨h8.cell (.tail _ (.head _)) 0, h8.cell (.tail _ (.head _)) 1⟩, h8.cell (.head _) 0, h8.cell (.head _) 1⟩; done)
      clear hK K
      (try simp only [Act.put, List.getElem_toArray, List.getElem_cons_zero, List.getElem_cons_succ, List.setIfInBounds_toArray, List.set_cons_zero, List.set_cons_succ])
      refine wpAnyH_ready (rs := [5]) (by decide +kernel) (by simp) ?_
      refine AllReadyH.cons rfl (fun K hK => ?_) AllReadyH.nil
      (try simp only [List.getElem_toArray, List.getElem_cons_zero, List.getElem_cons_succ])
      go_simp
      refine hK.out _ _ ?_ (fun hHeld => ?_)
      focus ((try dsimp only); exact ⟨⟨h8.cell (.tail _ (.head _)) 0, h8.cell (.tail _ (.head _)) 1⟩, h8.cell (.head _) 0, h8.cell (.head _) 1⟩; done)
      clear hK K
      (try simp only [Act.put, List.getElem_toArray, List.getElem_cons_zero, List.getElem_cons_succ, List.setIfInBounds_toArray, List.set_cons_zero, List.set_cons_succ])
      refine wpAnyH_done (by decide +kernel) ?_ _
      go_wp2_with fail
      go_meet
      exact ⟨zs, A8, c8, rfl, hz1, hz2, hi8, h8, ((hb.trans (hB6.mono hb.size)).trans (hB7.mono (hb.trans (hB6.mono hb.size)).size)).trans (hB8.mono ((hb.trans (hB6.mono hb.size)).trans (hB7.mono (hb.trans (hB6.mono hb.size)).size)).size)⟩
    case rest =>
      obtain ⟨z3, A3, C3, rfl, p3, m3, i3, h3, b3⟩ := hcut
      have HQ6 := Lib.hid h3
      have HI13 := Lib.hid i3
      have HB13 := Lib.hid b3
      clear h3 i3 b3
      generalize hW : wc = Wa at *
      clear hW
      go_upto_region 4 with (fail)
      go_cut [6] (fun s wx => ∃ zs A cap, s = .slice A zs.length cap ∧ Hid (zs.Pairwise (· < ·)) ∧ Hid (∀ n, n ∈ zs ↔ ChP (l2.map PV.par) (l.map PV.par) n) ∧ Items wx wx.heap.size A encN zs ∧ Hold w [(g1, #[.slice Ao2 o2.length co2, .slice Ap2 l2.length cp2], 26), (g0, #[.slice Ao o.length co, .slice Ap l.length cp], 26)] wx ∧ Below Wa.heap.size Wa wx)
      case first =>
        have hH := HQ6.out.drew
        have hb := (Below.refl Wa.heap.size Wa).drew
        refine wp_region_held_drew (S := fun W => (W.cell? ⟨g0, 0, none⟩ = some (.slice Ao o.length co) ∧ W.cell? ⟨g0, 1, none⟩ = some (.slice Ap l.length cp)) ∧ W.cell? ⟨g1, 0, none⟩ = some (.slice Ao2 o2.length co2) ∧ W.cell? ⟨g1, 1, none⟩ = some (.slice Ap2 l2.length cp2)) (by kernel_rfl) ?_ (fun hHeld => ?_)
        · (try dsimp only)
          exact ⟨⟨hH.cell (.tail _ (.head _)) 0, hH.cell (.tail _ (.head _)) 1⟩, hH.cell (.head _) 0, hH.cell (.head _) 1⟩
        refine takeSome (i := 0) (v := ?_) (by decide +kernel) rfl (by rfl) (by decide +kernel) (by decide +kernel) (fun _ _ _ h => h) (by assumption) ?_ ?_
        rotate_left
        focus (intro w0 hSw; (try dsimp only at hSw); go_simp; (try (with_reducible rfl)); done)
        (try simp only [Act.put, List.getElem_toArray, List.getElem_cons_zero, List.setIfInBounds_toArray, List.set_cons_zero, List.set_cons_succ])
        refine takeSome (i := 2) (v := ?_) (by decide +kernel) rfl (by rfl) (by decide +kernel) (by decide +kernel) (fun _ _ _ h => h) (by assumption) ?_ ?_
        rotate_left
        focus (intro w0 hSw; (try dsimp only at hSw); go_simp; (try (with_reducible rfl)); done)
        (try simp only [Act.put, List.getElem_toArray, List.getElem_cons_zero, List.getElem_cons_succ, List.setIfInBounds_toArray, List.set_cons_zero, List.set_cons_succ])
        refine wpAnyH_ready (rs := [1]) (by decide +kernel) (by simp) ?_
        refine AllReadyH.cons rfl (fun K hK => ?_) AllReadyH.nil
        (try simp only [List.getElem_toArray, List.getElem_cons_zero, List.getElem_cons_succ])
        go_simp
        go_at_call 17
        refine (HOW2.out _ hH.1 HL2.out).mono ?_
        rintro e' W6 ⟨hB6, A6, c6, l6, P6, d6, rfl, hm6, hp6⟩
        have h6 := hH.on hB6
        refine hK.out _ _ ?_ (fun hHeld => ?_)
        focus ((try dsimp only); exact ⟨⟨h6.cell (.tail _ (.head _)) 0, h6.cell (.tail _ (.head _)) 1⟩, h6.cell (.head _) 0, h6.cell (.head _) 1⟩; done)
        clear hK K
        (try simp only [Act.put, List.getElem_toArray, List.getElem_cons_zero, List.getElem_cons_succ, List.setIfInBounds_toArray, List.set_cons_zero, List.set_cons_succ])
        refine wpAnyH_ready (rs := [3]) (by decide +kernel) (by simp) ?_
        refine AllReadyH.cons rfl (fun K hK => ?_) AllReadyH.nil
        (try simp only [List.getElem_toArray, List.getElem_cons_zero, List.getElem_cons_succ])
        go_simp
        go_at_call 17
        refine (HOW1.out _ h6.1 HL1.out).mono ?_
        rintro e' W7 ⟨hB7, A7, c7, l7, P7, d7, rfl, hm7, hp7⟩
        have h7 := h6.on hB7
        have hp6' := hp6.on hB7
        refine hK.out _ _ ?_ (fun hHeld => ?_)
        focus ((try dsimp only); exact ⟨⟨h7.cell (.tail _ (.head _)) 0, h7.cell (.tail _ (.head _)) 1⟩, h7.cell (.head _) 0, h7.cell (.head _) 1⟩; done)
        clear hK K
        (try simp only [Act.put, List.getElem_toArray, List.getElem_cons_zero, List.getElem_cons_succ, List.setIfInBounds_toArray, List.set_cons_zero, List.set_cons_succ])
        refine wpAnyH_ready (rs := [4]) (by decide +kernel) (by simp) ?_
        refine AllReadyH.cons rfl (fun K hK => ?_) AllReadyH.nil
        (try simp only [List.getElem_toArray, List.getElem_cons_zero, List.getElem_cons_succ])
        go_simp
        go_at_call 30
        with_reducible refine (owned_changed HM2.out HM1.out HI2.out HI1.out hm6 hp6' hm7 hp7).mono ?_
        rintro e' W8 ⟨zs, hz1, hz2, hB8, A8, c8, rfl, hi8⟩
        have h8 := h7.on hB8
        refine hK.out _ _ ?_ (fun hHeld => ?_)
        focus ((try dsimp only); exact ⟨⟨h8.cell (.tail _ (.head _)) 0, h8.cell (.tail _ (.head _)) 1⟩, h8.cell (.head _) 0, h8.cell (.head _) 1⟩; done)
        clear hK K
        (try simp only [Act.put, List.getElem_toArray, List.getElem_cons_zero, List.getElem_cons_succ, List.setIfInBounds_toArray, List.set_cons_zero, List.set_cons_succ])
        refine wpAnyH_ready (rs := [5]) (by decide +kernel) (by simp) ?_
        refine AllReadyH.cons rfl (fun K hK => ?_) AllReadyH.nil
        (try simp only [List.getElem_toArray, List.getElem_cons_zero, List.getElem_cons_succ])
        go_simp
        refine hK.out _ _ ?_ (fun hHeld => ?_)
        focus ((try dsimp only); exact ⟨⟨h8.cell (.tail _ (.head _)) 0, h8.cell (.tail _ (.head _)) 1⟩, h8.cell (.head _) 0, h8.cell (.head _) 1⟩; done)
        clear hK K
        (try simp only [Act.put, List.getElem_toArray, List.getElem_cons_zero, List.getElem_cons_succ, List.setIfInBounds_toArray, List.set_cons_zero, List.set_cons_succ])
        refine wpAnyH_done (by decide +kernel) ?_ _
        go_wp2_with fail
        go_meet
        exact ⟨zs, A8, c8, rfl, hz1, hz2, hi8, h8, ((hb.trans (hB6.mono hb.size)).trans (hB7.mono (hb.trans (hB6.mono hb.size)).size)).trans (hB8.mono ((hb.trans (hB6.mono hb.size)).trans (hB7.mono (hb.trans (hB6.mono hb.size)).size)).size)⟩
      case rest =>
        obtain ⟨z4, A4, C4, rfl, p4, m4, i4, h4, b4⟩ := hcut
        have HQ7 := Lib.hid h4
        have HI14 := Lib.hid i4
        have HB14 := Lib.hid b4
        clear h4 i4 b4
        generalize hW : wc = Wb at *
        clear hW
        go_upto_region 5 with (fail)
        go_cut [7] (fun s wx => ∃ zs A cap, s = .slice A zs.length cap ∧ Hid (zs.Pairwise (· < ·)) ∧ Hid (∀ n, n ∈ zs ↔ ChP (l.map PV.par) (l.map PV.par) n) ∧ Items wx wx.heap.size A encN zs ∧ Hold w [(g1, #[.slice Ao2 o2.length co2, .slice Ap2 l2.length cp2], 26), (g0, #[.slice Ao o.length co, .slice Ap l.length cp], 26)] wx ∧ Below Wb.heap.size Wb wx)
        case first =>
          have hH := HQ7.out.drew
          have hb := (Below.refl Wb.heap.size Wb).drew
          refine wp_region_held_drew (S := fun W => (W.cell? ⟨g0, 0, none⟩ = some (.slice Ao o.length co) ∧ W.cell? ⟨g0, 1, none⟩ = some (.slice Ap l.length cp)) ∧ W.cell? ⟨g1, 0, none⟩ = some (.slice Ao2 o2.length co2) ∧ W.cell? ⟨g1, 1, none⟩ = some (.slice Ap2 l2.length cp2)) (by kernel_rfl) ?_ (fun hHeld => ?_)
          · (try dsimp only)
            exact ⟨⟨hH.cell (.tail _ (.head _)) 0, hH.cell (.tail _ (.head _)) 1⟩, hH.cell (.head _) 0, hH.cell (.head _) 1⟩
          refine takeSome (i := 0) (v := ?_) (by decide +kernel) rfl (by rfl) (by decide +kernel) (by decide +kernel) (fun _ _ _ h => h) (by assumption) ?_ ?_
          rotate_left
          focus (intro w0 hSw; (try dsimp only at hSw); go_simp; (try (with_reducible rfl)); done)
          (try simp only [Act.put, List.getElem_toArray, List.getElem_cons_zero, List.setIfInBounds_toArray, List.set_cons_zero, List.set_cons_succ])
          refine takeSome (i := 2) (v := ?_) (by decide +kernel) rfl (by rfl) (by decide +kernel) (by decide +kernel) (fun _ _ _ h => h) (by assumption) ?_ ?_
          rotate_left
          focus (intro w0 hSw; (try dsimp only at hSw); go_simp; (try (with_reducible rfl)); done)
          (try simp only [Act.put, List.getElem_toArray, List.getElem_cons_zero, List.getElem_cons_succ, List.setIfInBounds_toArray, List.set_cons_zero, List.set_cons_succ])
          refine wpAnyH_ready (rs := [1]) (by decide +kernel) (by simp) ?_
          refine AllReadyH.cons rfl (fun K hK => ?_) AllReadyH.nil
          (try simp only [List.getElem_toArray, List.getElem_cons_zero, List.getElem_cons_succ])
          go_simp
          go_at_call 17
          refine (HOW1.out _ hH.1 HL1.out).mono ?_
          rintro e' W6 ⟨hB6, A6, c6, l6, P6, d6, rfl, hm6, hp6⟩
          have h6 := hH.on hB6
          refine hK.out _ _ ?_ (fun hHeld => ?_)
          focus ((try dsimp only); exact ⟨⟨h6.cell (.tail _ (.head _)) 0, h6.cell (.tail _ (.head _)) 1⟩, h6.cell (.head _) 0, h6.cell (.head _) 1⟩; done)
          clear hK K
          (try simp only [Act.put, List.getElem_toArray, List.getElem_cons_zero, List.getElem_cons_succ, List.setIfInBounds_toArray, List.set_cons_zero, List.set_cons_succ])
          refine wpAnyH_ready (rs := [3]) (by decide +kernel) (by simp) ?_
          refine AllReadyH.cons rfl (fun K hK => ?_) AllReadyH.nil
          (try simp only [List.getElem_toArray, List.getElem_cons_zero, List.getElem_cons_succ])
          go_simp
          go_at_call 17
          refine (HOW1.out _ h6.1 HL1.out).mono ?_
          rintro e' W7 ⟨hB7, A7, c7, l7, P7, d7, rfl, hm7, hp7⟩
          have h7 := h6.on hB7
          have hp6' := hp6.on hB7
          refine hK.out _ _ ?_ (fun hHeld => ?_)
          focus ((try dsimp only); exact ⟨⟨h7.cell (.tail _ (.head _)) 0, h7.cell (.tail _ (.head _)) 1⟩, h7.cell (.head _) 0, h7.cell (.head _) 1⟩; done)
          clear hK K
          (try simp only [Act.put, List.getElem_toArray, List.getElem_cons_zero, List.getElem_cons_succ, List.setIfInBounds_toArray, List.set_cons_zero, List.set_cons_succ])
          refine wpAnyH_ready (rs := [4]) (by decide +kernel) (by simp) ?_
          refine AllReadyH.cons rfl (fun K hK => ?_) AllReadyH.nil
          (try simp only [List.getElem_toArray, List.getElem_cons_zero, List.getElem_cons_succ])
          go_simp
          go_at_call 30
          with_reducible refine (owned_changed HM1.out HM1.out HI1.out HI1.out hm6 hp6' hm7 hp7).mono ?_
          rintro e' W8 ⟨zs, hz1, hz2, hB8, A8, c8, rfl, hi8⟩
          have h8 := h7.on hB8
          refine hK.out _ _ ?_ (fun hHeld => ?_)
          focus ((try dsimp only); exact ⟨⟨h8.cell (.tail _ (.head _)) 0, h8.cell (.tail _ (.head _)) 1⟩, h8.cell (.head _) 0, h8.cell (.head _) 1⟩; done)
          clear hK K
          (try simp only [Act.put, List.getElem_toArray, List.getElem_cons_zero, List.getElem_cons_succ, List.setIfInBounds_toArray, List.set_cons_zero, List.set_cons_succ])
          refine wpAnyH_ready (rs := [5]) (by decide +kernel) (by simp) ?_
          refine AllReadyH.cons rfl (fun K hK => ?_) AllReadyH.nil
          (try simp only [List.getElem_toArray, List.getElem_cons_zero, List.getElem_cons_succ])
          go_simp
          refine hK.out _ _ ?_ (fun hHeld => ?_)
          focus ((try dsimp only); exact ⟨⟨h8.cell (.tail _ (.head _)) 0, h8.cell (.tail _ (.head _)) 1⟩, h8.cell (.head _) 0, h8.cell (.head _) 1⟩; done)
          clear hK K
          (try simp only [Act.put, List.getElem_toArray, List.getElem_cons_zero, List.getElem_cons_succ, List.setIfInBounds_toArray, List.set_cons_zero, List.set_cons_succ])
          refine wpAnyH_done (by decide +kernel) ?_ _
          go_wp2_with fail
          go_meet
          exact ⟨zs, A8, c8, rfl, hz1, hz2, hi8, h8, ((hb.trans (hB6.mono hb.size)).trans (hB7.mono (hb.trans (hB6.mono hb.size)).size)).trans (hB8.mono ((hb.trans (hB6.mono hb.size)).trans (hB7.mono (hb.trans (hB6.mono hb.size)).size)).size)⟩
        case rest =>
          obtain ⟨z5, A5, C5, rfl, p5, m5, i5, h5, b5⟩ := hcut
          have HQ8 := Lib.hid h5
          have HI15 := Lib.hid i5
          have HB15 := Lib.hid b5
          clear h5 i5 b5
          generalize hW : wc = Wc at *
          clear hW
          go_upto_region 6 with (fail)
          have e4 : z4 = z3 := rise_one p4.out p3.out fun n => (m4.out n).trans (chP_swap.trans (m3.out n).symm)
          subst e4
          have e5 : z5 = [] := List.eq_nil_iff_forall_not_mem.2 fun n hn => chP_self ((m5.out n).1 hn)
          subst e5
          have hlz : z4.length ≤ 1000000 := by
            have h1 := nd_len (m := idsQ (l.map PV.par) ++ idsQ (l2.map PV.par)) (p3.out.imp (fun h => by omega)) (fun n hn => List.mem_append.2 ((m3.out n).1 hn).1)
            have h2 := HM1.out
            have h3 := HM2.out
            unfold idsQ at h1
            simp only [List.length_append, List.length_map] at h1
            omega
          have HLZ := Lib.hid hlz
          clear hlz
          have HX3 := Lib.hid (fun W (hb : Below Wc.heap.size Wc W) => HI13.out.on (HB14.out.trans ((HB15.out.trans (hb.mono HB15.out.size)).mono HB14.out.size)))
          have HX4 := Lib.hid (fun W (hb : Below Wc.heap.size Wc W) => HI14.out.on (HB15.out.trans (hb.mono HB15.out.size)))
          obtain ⟨c0, c1⟩ := HQ8.out.pt (.tail _ (.head _))
          obtain ⟨c2, c3⟩ := HQ8.out.pt (.head _)
          have HRI : Hid (∀ A B ca cb W, Items W W.heap.size A encN z4 → Items W W.heap.size B encN z4 → Calls Tryz.prog 29 #[.slice A z4.length ca, .slice B z4.length cb] W fun e w' => e = .returned (.bool true) ∧ Below W.heap.size W w') := fun A B ca cb W ha hb => (ref_ints z4 z4 A B ca cb HLZ.out W ha hb).mono fun e w' ⟨h1, h2⟩ => ⟨by rw [h1, decide_eq_true_iff.2 rfl], h2⟩
          go_wp2_with (first
            | (go_at_call 31; go_must (refine (HRC.out _ HQ8.out.1 HM1.out HM2.out).mono ?_; rintro e' W9 ⟨v, L, rfl, hr, hp, hn⟩; obtain ⟨A9, c9, rfl, hi9, -⟩ := hr.items; obtain rfl : L = z4 := rise_one hp p3.out (fun n => (hn n).trans (m3.out n).symm); have HB9 := Lib.hid hr.1; have HI9 := Lib.hid hi9; clear hr hp hn hi9))
            | (go_at_call 29; go_must (first
                | (with_reducible refine (HRI.out A3 A9 C3 c9 W9 (HX3.out _ HB9.out) HI9.out).mono ?_; rintro e' W10 ⟨rfl, hB10⟩; have HB10 := Lib.hid (HB9.out.trans (hB10.mono HB9.out.size)); clear hB10)
                | (with_reducible refine (HRI.out A3 A4 C3 C4 W10 (HX3.out _ HB10.out) (HX4.out _ HB10.out)).mono ?_; rintro e' W11 ⟨rfl, hB11⟩; have HB11 := Lib.hid (HB10.out.trans (hB11.mono HB10.out.size)); clear hB11))))
          go_ret
          exact ⟨rfl, HQ8.out.1.trans (HB11.out.mono HQ8.out.1.size)⟩
end Go.Proofs.YtbcmnhbpomjinaaGreat
