/- The walk of CutSides. -/
import Derived.Test.YtplbfiglkllljaaGreatCutOnce
import Derived.Test.YtplbfiglkllljaaGreatCutV
import Derived.Test.YtplbfiglkllljaaGreatRefSame
namespace Go.Proofs.YtplbfiglkllljaaGreat
open Go.RowKit

/-- Where a parcel of a plan lies: its place, its ring, and At's answer. -/
theorem part_here {W : World} {o : List (Int × Int)} {D : Option Addr} {d : Nat} {lq : List PV} {Dp : Option Addr} {dp : Nat} {n : Int} {r : List (Int × Int)} {own : ByteArray} (h : PlanAt W o D d lq Dp dp) (hn : lq.length ≤ 1000000) (hQ : PlanQ o (lq.map PV.par)) (hm : (⟨n, r, own⟩ : Par) ∈ lq.map PV.par) :
    ∃ (k : Nat) (ad : Addr) (X : Option Addr) (x : Nat), k < lq.length ∧ Dp = some ad ∧ ∀ W', Below W.heap.size W W' → W'.cell? ⟨(ad.add (k * 3)).block, (ad.add (k * 3)).off + 1, none⟩ = some (.slice X r.length x) ∧ Pts W' W'.heap.size X r ∧ Calls Tryz.prog 18 #[.agg #[.slice D o.length d, .slice Dp lq.length dp], .int .i64 n] W' fun e' w' => e' = .returned (.int .i64 (k : Int)) ∧ Below W'.heap.size W' w' := by
  have hmm : n ∈ lq.map fun x => x.par.id := by
    obtain ⟨y, hy, e⟩ := List.mem_map.1 hm
    exact List.mem_map.2 ⟨y, hy, by rw [e]⟩
  have hlt := posL_lt hmm
  have hg := (posL_at hmm).1
  rw [List.length_map] at hlt
  rw [List.getElem?_map, List.getElem?_eq_getElem hlt] at hg
  have hid := Option.some.inj hg
  have hpar := hQ.one (List.mem_map_of_mem (f := PV.par) (List.getElem_mem hlt)) hm hid
  obtain ⟨ad, hA, -⟩ := h.prs.at hlt
  refine ⟨posL (lq.map fun x => x.par.id) n, ad, lq[posL (lq.map fun x => x.par.id) n].A, lq[posL (lq.map fun x => x.par.id) n].cap, hlt, hA, fun W' hb => ⟨?_, ?_, (ref_at o D d lq Dp dp n hn W' (h.prs.on hb)).mono fun e w' ⟨m, h1, h2, h3⟩ => ⟨by rw [h1, plc_pos h2 hmm], h3⟩⟩⟩
  · have hc := (Prs.cells hA (h.prs.on hb) (List.getElem?_eq_getElem hlt) (Below.refl _ W')).2.1
    rw [hpar] at hc
    exact hc
  · have hp := ((h.prs.on hb).2 _ (List.getElem_mem hlt)).1
    rw [hpar] at hp
    exact hp
theorem ktp {w9 w W W' : World} {L : List (Nat × Array Value × TypeId)} (h : Hold w L W ∧ Below w9.heap.size w9 W) (hb : Below W.heap.size W W') : Hold w L W' ∧ Below w9.heap.size w9 W' := ⟨h.1.on hb, h.2.trans (hb.mono h.2.size)⟩
theorem ktd {w9 w W : World} {L : List (Nat × Array Value × TypeId)} (h : Hold w L W ∧ Below w9.heap.size w9 W) : Hold w L W.drew ∧ Below w9.heap.size w9 W.drew := ⟨h.1.drew, h.2.drew⟩
theorem back_take {path : List (Int × Int)} {m j : Nat} (hm : m < path.length) (hj : j = path.length - 1 - m) : path.reverse.take (m + 1) = path.reverse.take m ++ [nx path j] := by
  subst hj
  rw [List.take_succ_eq_append_getElem (by rw [List.length_reverse]; exact hm), List.getElem_reverse, nx_lt (by omega)]
set_option maxRecDepth 100000 in
set_option maxHeartbeats 2000000 in
theorem sides_walk (o : List (Int × Int)) (Ao : Option Addr) (co : Nat) (l : List PV) (Ap : Option Addr) (cp : Nat) (id : Int) (path : List (Int × Int)) (A : Option Addr) (ca : Nat) (fresh : Int) (hl : l.length ≤ 8796093022208) (hown : ∀ x ∈ l, x.par.own.size ≤ maxLen) (hn : path.length * 16 ≤ 140737488355328) (hnA : NilOk A ca) (w : World) (h : PlanAt w o Ao co l Ap cp) (hq : Pts w w.heap.size A path) :
    Calls Tryz.prog 5 #[.agg #[.slice Ao o.length co, .slice Ap l.length cp], .int .i64 id, .slice A path.length ca, .int .i64 fresh] w fun e w' => e = .returned (.bool true) ∧ Below w.heap.size w w' := by
  have HAN := Lib.hid (fun W => cut_answers W)
  have HFW := Lib.hid (fun K W (hh : Hold w K W) => few6_any o Ao co l Ap cp (by have := h.room; omega) W (h.prs.on hh.1))
  have HSP := Lib.hid (fun (hl : l.length ≤ 80) K W (hh : Hold w K W) => lawSplit_any o Ao co l Ap cp id path A ca fresh (by omega) (by have := h.room; omega) hown hn hnA W (h.on hh.1) (hq.on hh.1))
  have HS2 := Lib.hid (fun (hl : l.length ≤ 80) A2 c2 (hn2 : NilOk A2 c2) K W (hh : Hold w K W) (hp : Pts W W.heap.size A2 path.reverse) => by
    have hx := lawSplit_any o Ao co l Ap cp id path.reverse A2 c2 fresh (by omega) (by have := h.room; omega) hown (by rw [List.length_reverse]; exact hn) hn2 W (h.on hh.1) hp
    rw [List.length_reverse] at hx
    exact hx)
  have HPA := Lib.hid (fun K W (hh : Hold w K W) (k : Nat) (hk : k < path.length) => hq.nx hh.1 hk (Nat.mod_eq_of_lt hk))
  have HQ := (Hold.refl w).new #[.slice Ao o.length co, .slice Ap l.length cp] 26
  clear h hq hl hown hn hnA
  go_enter Tryz.func5, Tryz.ntmps5
  go_upto_region 1 with (fail)
  generalize (World.alloc _ _) = W1 at HQ ⊢
  obtain ⟨g4, hg4⟩ : ∃ g, w.heap.size = g := ⟨_, rfl⟩
  rw [hg4] at HQ ⊢
  have HG4 := Lib.hid hg4
  clear hg4
  have HQ1 := Lib.hid HQ
  clear HQ
  go_wp2_with fail
  go_at_call 12
  refine (HAN.out _).mono ?_
  rintro e' W2 ⟨rfl, hB⟩
  have hq2 := HQ1.out.on hB
  obtain ⟨c0, c1⟩ := hq2.pt (.head _)
  have HQ2 := Lib.hid hq2
  clear hB hq2
  go_wp2_with fail
  go_at_call 13
  refine (HFW.out _ _ HQ2.out).mono ?_
  rintro e' W3 ⟨b, rfl, hb80, hB⟩
  have hq3 := HQ2.out.on hB
  have HB80 := Lib.hid hb80
  clear c0 c1 hB hb80
  obtain ⟨c0, c1⟩ := hq3.pt (.head _)
  have HQ3 := Lib.hid hq3
  clear hq3
  cases b
  · go_wp2_with (go_at_call 12; go_must (refine (HAN.out _).mono ?_; rintro e' W8 ⟨rfl, hB⟩; have HQ8 := Lib.hid (HQ3.out.on hB); clear hB))
    go_ret
    exact ⟨rfl, HQ8.out.1⟩
  · by_cases h150 : 150 < path.length
    · have h1 : 150 < (path.length : Int) := by omega
      go_wp2_with (go_at_call 12; go_must (refine (HAN.out _).mono ?_; rintro e' W8 ⟨rfl, hB⟩; have HQ8 := Lib.hid (HQ3.out.on hB); clear hB))
      go_ret
      exact ⟨rfl, HQ8.out.1⟩
    · have h1 : ¬ 150 < (path.length : Int) := by omega
      have HL80 : Hid (l.length ≤ 80) := (HB80.out (by first | trivial | rfl)).2.2
      have HN150 : Hid (path.length ≤ 150) := by unfold Hid; omega
      have HR0 : Row W3 (.slice none 0 0) [] W3 := Row.nil (Below.refl _ _)
      clear HB80 HFW HAN h150 c0 c1
      go_wp2_with fail
      go_loopg [9, 10] path.length (fun g v i wr => ∃ (m : Nat) (z : Int), m ≤ path.length ∧ g = path.length - m ∧ i = .int .i64 z ∧ z = (path.length : Int) - 1 - m ∧ Row W3 v (path.reverse.take m) wr)
      case atStart => exact ⟨0, (path.length : Int) - 1, Nat.zero_le _, rfl, by go_num, by simp, by rw [List.take_zero]; exact HR0⟩
      case round =>
        clear HR0
        obtain ⟨m, z, hm, hgm, rfl, hzm, HV⟩ := hrel
        have HGM := Lib.hid hgm
        clear hgm
        by_cases hltm : m < path.length
        · obtain ⟨j, hj⟩ : ∃ j : Nat, j = path.length - 1 - m := ⟨_, rfl⟩
          obtain rfl : z = (j : Int) := by omega
          have hjl : j < path.length := by omega
          obtain ⟨ad, hA, -, d0, d1⟩ := HPA.out _ _ (HQ3.out.on HV.1) j hjl
          subst hA
          have HT := Lib.hid (back_take hltm hj)
          have HLN : Hid ((path.reverse.take m).length ≤ 1000000000) := by
            have := List.length_take_le m path.reverse
            have := HN150.out
            unfold Hid; omega
          have b0 : (0 : Int) ≤ (j : Int) := by omega
          have b1 : (j : Int) < (path.length : Int) := by omega
          have b8 : (path.length : Int) ≤ 150 := by omega
          have HJM : Hid ((j : Int) - 1 = (path.length : Int) - 1 - ((m + 1 : Nat) : Int)) := by unfold Hid; omega
          clear hj hzm
          generalize nx path j = p at *
          generalize path.reverse.take m = qs at *
          go_wp2_with (at_builtin; refine append_pt _ Tryz.underlying23 HV HLN.out p _ rfl _ _ rfl rfl _ rfl ?_; rintro v' w2 HR2)
          go_roundg (path.length - (m + 1))
          case measure => have := HGM.out; omega
          case rel => exact ⟨m + 1, (j : Int) - 1, by omega, rfl, by go_num, HJM.out, by rw [HT.out]; exact HR2⟩
        · obtain rfl : m = path.length := by omega
          obtain rfl : z = -1 := by omega
          rw [List.take_of_length_le (by rw [List.length_reverse]; exact Nat.le_refl _)] at HV
          obtain ⟨A5, c5, hv, hp5, hn5, -⟩ := HV.full
          rw [List.length_reverse] at hv
          subst hv
          have hq5 := HQ3.out.on HV.1
          obtain ⟨c0, c1⟩ := hq5.pt (.head _)
          have HQ5 := Lib.hid hq5
          have HP5 := Lib.hid hp5
          have HN5 := Lib.hid hn5
          clear HV hq5 hp5 hn5 hzm hltm hm HPA HGM
          go_wp2_with fail
          go_at_call 14
          refine (HSP.out HL80.out _ _ HQ5.out).mono ?_
          rintro e' W6 ⟨hB, ⟨hne, rfl⟩ | ⟨hz, D1, d1, Dp, dp, lq, rfl, hml, r1, r2, r3⟩⟩
          · have hb7 := hB.alloc hB.size (Obj.cells #[.slice none 0 0, .slice none 0 0] 26 (0, 0))
            have HQ7 := Lib.hid (HQ5.out.on hb7)
            have HP7 := Lib.hid (HP5.out.on hb7)
            clear c0 c1 hB hb7
            go_upto_region 9 with (fail)
            generalize (World.alloc _ _) = W7 at HQ7 HP7 ⊢
            obtain ⟨c0, c1⟩ := HQ7.out.pt (.head _)
            go_wp2_with fail
            go_at_call 14
            refine (HS2.out HL80.out _ _ HN5.out _ _ HQ7.out HP7.out).mono ?_
            rintro e' W8 ⟨hB, ⟨hne2, rfl⟩ | ⟨hz2, -⟩⟩
            · rw [sp_rev]
              have e0 : (sptE o (l.map PV.par) id path fresh == 0) = false := by simpa using hne
              have f0 : ¬ sptE o (l.map PV.par) id path fresh = 0 := hne
              have HB8 := Lib.hid ((HQ7.out.on hB).alloc (Obj.cells #[.slice none 0 0, .slice none 0 0] 26 (0, 0)))
              clear hne hne2 hB c0 c1 HSP HS2
              generalize sptE o (l.map PV.par) id path fresh = se at *
              go_wp2
              go_ret
              exact ⟨rfl, HB8.out.1⟩
            · exact absurd (sp_rev.symm.trans hz2) hne
          · obtain ⟨hpl, hl2, ho2, hw2⟩ := split_plan hz hml r1 r2 r3
            have hQ := (chkQ_iff _ _).1 (sp_zero hz).2.2.2
            have hq7 := (HQ5.out.on hB).new #[.slice D1 (putE o path).length d1, .slice Dp lq.length dp] 26
            have hba := (Below.refl _ W6).alloc (Nat.le_refl _) (Obj.cells #[.slice D1 (putE o path).length d1, .slice Dp lq.length dp] 26 (0, 0))
            have hp7 := (HP5.out.on hB).on hba
            have hl7 := hpl.on hba
            have HQ7 := Lib.hid hq7
            have HP7 := Lib.hid hp7
            have HL7 := Lib.hid hl7
            have HLN : Hid (lq.length ≤ 64 ∧ (putE o path).length ≤ 128) := ⟨hl2, ho2⟩
            rw [← hml] at hQ
            have HML := Lib.hid hml
            have HQQ := Lib.hid hQ
            have HZ := Lib.hid hz
            have f0 : sptE o (l.map PV.par) id path fresh = 0 := hz
            clear hpl hl2 ho2 hw2 hQ hq7 hba hp7 hl7 hB r1 r2 r3 hml c0 c1 hz
            go_upto_region 9 with (fail)
            generalize (World.alloc _ _) = W7 at HQ7 HP7 HL7 ⊢
            generalize W6.heap.size = g11 at HQ7 ⊢
            obtain ⟨c0, c1⟩ := HQ7.out.pt (.tail _ (.head _))
            go_wp2_with fail
            go_at_call 14
            refine (HS2.out HL80.out _ _ HN5.out _ _ HQ7.out HP7.out).mono ?_
            rintro e' W8 ⟨hB, ⟨hne2, rfl⟩ | ⟨hz2, E1, e1, Ep, ep, lr, rfl, hml2, r1, r2, r3⟩⟩
            · exact absurd (sp_rev.trans HZ.out) hne2
            obtain ⟨rA, rB, own, m1, m2, m3, m4, heq⟩ := sp_swap HZ.out
            obtain ⟨hpl2, hl22, ho22, -⟩ := split_plan hz2 hml2 r1 r2 r3
            have hQ2 := (chkQ_iff _ _).1 (sp_zero hz2).2.2.2
            rw [← hml2] at hQ2
            rw [heq] at hQ2 hpl2 ho22
            have hq9 := (HQ7.out.on hB).new #[.slice E1 (putE o path).length e1, .slice Ep lr.length ep] 26
            have hba := (Below.refl _ W8).alloc (Nat.le_refl _) (Obj.cells #[.slice E1 (putE o path).length e1, .slice Ep lr.length ep] 26 (0, 0))
            have hpb := hpl2.on hba
            have hpa := (HL7.out.on hB).on hba
            rw [← HML.out] at m1 m2
            rw [← hml2] at m3 m4
            obtain ⟨ki, ad, X1, x1, hki, hA1, HI⟩ := part_here hpa (by have := HLN.out.1; omega) HQQ.out m2
            obtain ⟨kj, ad', X2, x2, hkj, hA2, HJ⟩ := part_here hpa (by have := HLN.out.1; omega) HQQ.out m1
            obtain ⟨kk, ae, X3, x3, hkk, hA3, HK⟩ := part_here hpb (by omega) hQ2 m4
            obtain ⟨kl, ae', X4, x4, hkl, hA4, HL⟩ := part_here hpb (by omega) hQ2 m3
            subst hA1
            obtain rfl := Option.some.inj hA2
            subst hA3
            obtain rfl := Option.some.inj hA4
            have hrA : rA.length ≤ maxLen := by have := (HQQ.out.ringP m1).2.2; unfold maxLen; simp only at this; omega
            have hrB : rB.length ≤ maxLen := by have := (HQQ.out.ringP m2).2.2; unfold maxLen; simp only at this; omega
            have HRO := Lib.hid (fun W (hb : Below _ (W8.alloc (Obj.cells #[.slice E1 (putE o path).length e1, .slice (some ae) lr.length ep] 26 (0, 0))) W) => by
              have hx := ref_same (putE o path) (putE o path) D1 E1 d1 e1 (by have := HLN.out.2; unfold maxLen; omega) W (hpa.on hb).out (hpb.on hb).out
              rw [show decide (putE o path = putE o path) = true by simp] at hx
              exact hx)
            have HR2 := Lib.hid (fun W (hb : Below _ (W8.alloc (Obj.cells #[.slice E1 (putE o path).length e1, .slice (some ae) lr.length ep] 26 (0, 0))) W) => by
              have hx := ref_same rB rB X1 X4 x1 x4 hrB W (HI W hb).2.1 (HL W hb).2.1
              rw [show decide (rB = rB) = true by simp] at hx
              exact hx)
            have HR1 := Lib.hid (fun W (hb : Below _ (W8.alloc (Obj.cells #[.slice E1 (putE o path).length e1, .slice (some ae) lr.length ep] 26 (0, 0))) W) => by
              have hx := ref_same rA rA X2 X3 x2 x3 hrA W (HJ W hb).2.1 (HK W hb).2.1
              rw [show decide (rA = rA) = true by simp] at hx
              exact hx)
            have HI := Lib.hid HI
            have HJ := Lib.hid HJ
            have HK := Lib.hid HK
            have HL := Lib.hid HL
            have b1 : (ki : Int) < (lq.length : Int) := by omega
            have b2 : (kj : Int) < (lq.length : Int) := by omega
            have b3 : (kk : Int) < (lr.length : Int) := by omega
            have b4 : (kl : Int) < (lr.length : Int) := by omega
            have a1 : (0 : Int) ≤ (ki : Int) := by omega
            have a2 : (0 : Int) ≤ (kj : Int) := by omega
            have a3 : (0 : Int) ≤ (kk : Int) := by omega
            have a4 : (0 : Int) ≤ (kl : Int) := by omega
            rw [heq]
            clear hpl2 hl22 ho22 hQ2 hba hpb hpa m1 m2 m3 m4 hki hkj hkk hkl hA2 hA4 hrA hrB r1 r2 r3 hz2 hml2 hB HQQ HML HZ HQ7 HP7 HL7 HLN HSP HS2 c0 c1 HP5 HN5 HQ5 heq
            generalize putE o path = oo at *
            go_upto_region 10 with (fail)
            generalize (World.alloc _ _) = W9 at *
            generalize W8.heap.size = g13 at *
            have HT9 := Lib.hid (show Hold w [(g13, #[Value.slice E1 oo.length e1, Value.slice (some ae) lr.length ep], 26), (g11, #[Value.slice D1 oo.length d1, Value.slice (some ad) lq.length dp], 26), (g4, #[.slice Ao o.length co, .slice Ap l.length cp], 26)] W9 ∧ Below W9.heap.size W9 W9 from ⟨hq9, Below.refl _ _⟩)
            clear hq9
            go_upto_region 12 with (fail)
            go_cut [15, 16] (fun s t wx => s = .int .i64 (ki : Int) ∧ t = .int .i64 (kj : Int) ∧ Hold w [(g13, #[Value.slice E1 oo.length e1, Value.slice (some ae) lr.length ep], 26), (g11, #[Value.slice D1 oo.length d1, Value.slice (some ad) lq.length dp], 26), (g4, #[.slice Ao o.length co, .slice Ap l.length cp], 26)] wx ∧ Below W9.heap.size W9 wx)
            case first =>
              have hH := ktd HT9.out
              refine wp_region_held_drew (S := fun W => (W.cell? ⟨g11, 0, none⟩ = some (.slice D1 oo.length d1) ∧ W.cell? ⟨g11, 1, none⟩ = some (.slice (some ad) lq.length dp))) (by kernel_rfl) ?_ (fun hHeld => ?_)
              · (try dsimp only)
                exact hH.1.pt (.tail _ (.head _))
              refine takeSome (i := 0) (v := ?_) (by decide +kernel) rfl (by rfl) (by decide +kernel) (by decide +kernel) (fun _ _ _ h => h) (by assumption) ?_ ?_
              rotate_left
              focus (intro w0 hSw; (try dsimp only at hSw); go_simp; (try (with_reducible rfl)); done)
              (try simp only [Act.put, List.getElem_toArray, List.getElem_cons_zero, List.setIfInBounds_toArray, List.set_cons_zero, List.set_cons_succ])
              refine takeSome (i := 1) (v := ?_) (by decide +kernel) rfl (by rfl) (by decide +kernel) (by decide +kernel) (fun _ _ _ h => h) (by assumption) ?_ ?_
              rotate_left
              focus (intro w0 hSw; (try dsimp only at hSw); go_simp; (try (with_reducible rfl)); done)
              (try simp only [Act.put, List.getElem_toArray, List.getElem_cons_zero, List.getElem_cons_succ, List.setIfInBounds_toArray, List.set_cons_zero, List.set_cons_succ])
              refine takeSome (i := 3) (v := ?_) (by decide +kernel) rfl (by rfl) (by decide +kernel) (by decide +kernel) (fun _ _ _ h => h) (by assumption) ?_ ?_
              rotate_left
              focus (intro w0 hSw; (try dsimp only at hSw); go_simp; (try (with_reducible rfl)); done)
              (try simp only [Act.put, List.getElem_toArray, List.getElem_cons_zero, List.getElem_cons_succ, List.setIfInBounds_toArray, List.set_cons_zero, List.set_cons_succ])
              refine takeSome (i := 4) (v := ?_) (by decide +kernel) rfl (by rfl) (by decide +kernel) (by decide +kernel) (fun _ _ _ h => h) (by assumption) ?_ ?_
              rotate_left
              focus (intro w0 hSw; (try dsimp only at hSw); go_simp; (try (with_reducible rfl)); done)
              (try simp only [Act.put, List.getElem_toArray, List.getElem_cons_zero, List.getElem_cons_succ, List.setIfInBounds_toArray, List.set_cons_zero, List.set_cons_succ])
              refine wpAnyH_ready (rs := [2]) (by decide +kernel) (by simp) ?_
              refine AllReadyH.cons rfl (fun K hK => ?_) AllReadyH.nil
              (try simp only [List.getElem_toArray, List.getElem_cons_zero, List.getElem_cons_succ])
              go_simp
              go_at_call 18
              refine (HI.out _ hH.2).2.2.mono ?_
              rintro e' W5 ⟨rfl, hB5⟩
              have h5 := ktp hH hB5
              refine hK.out _ _ ?_ (fun hHeld => ?_)
              focus ((try dsimp only); exact h5.1.pt (.tail _ (.head _)); done)
              clear hK K
              (try simp only [Act.put, List.getElem_toArray, List.getElem_cons_zero, List.getElem_cons_succ, List.setIfInBounds_toArray, List.set_cons_zero, List.set_cons_succ])
              refine wpAnyH_ready (rs := [5]) (by decide +kernel) (by simp) ?_
              refine AllReadyH.cons rfl (fun K hK => ?_) AllReadyH.nil
              (try simp only [List.getElem_toArray, List.getElem_cons_zero, List.getElem_cons_succ])
              go_simp
              go_at_call 18
              refine (HJ.out _ h5.2).2.2.mono ?_
              rintro e' W5 ⟨rfl, hB5⟩
              have h6 := ktp h5 hB5
              refine hK.out _ _ ?_ (fun hHeld => ?_)
              focus ((try dsimp only); exact h6.1.pt (.tail _ (.head _)); done)
              clear hK K
              (try simp only [Act.put, List.getElem_toArray, List.getElem_cons_zero, List.getElem_cons_succ, List.setIfInBounds_toArray, List.set_cons_zero, List.set_cons_succ])
              refine takeSome (i := 6) (v := ?_) (by decide +kernel) rfl (by rfl) (by decide +kernel) (by decide +kernel) (fun _ _ _ h => h) (by assumption) ?_ ?_
              rotate_left
              focus (intro w0 hSw; (try dsimp only at hSw); go_simp; (try (with_reducible rfl)); done)
              (try simp only [Act.put, List.getElem_toArray, List.getElem_cons_zero, List.getElem_cons_succ, List.setIfInBounds_toArray, List.set_cons_zero, List.set_cons_succ])
              refine takeSome (i := 7) (v := ?_) (by decide +kernel) rfl (by rfl) (by decide +kernel) (by decide +kernel) (fun _ _ _ h => h) (by assumption) ?_ ?_
              rotate_left
              focus (intro w0 hSw; (try dsimp only at hSw); go_simp; (try (with_reducible rfl)); done)
              (try simp only [Act.put, List.getElem_toArray, List.getElem_cons_zero, List.getElem_cons_succ, List.setIfInBounds_toArray, List.set_cons_zero, List.set_cons_succ])
              refine wpAnyH_done (by decide +kernel) ?_ _
              go_wp2_with fail
              go_meet
              exact ⟨rfl, rfl, h6⟩

            case rest =>
              obtain ⟨rfl, rfl, h10⟩ := hcut
              have HT10 := Lib.hid h10
              clear h10
              generalize hW : wc = W10 at *
              clear hW
              go_upto_region 13 with (fail)
              go_cut [17, 18] (fun s t wx => s = .int .i64 (kk : Int) ∧ t = .int .i64 (kl : Int) ∧ Hold w [(g13, #[Value.slice E1 oo.length e1, Value.slice (some ae) lr.length ep], 26), (g11, #[Value.slice D1 oo.length d1, Value.slice (some ad) lq.length dp], 26), (g4, #[.slice Ao o.length co, .slice Ap l.length cp], 26)] wx ∧ Below W9.heap.size W9 wx)
              case first =>
                have hH := ktd HT10.out
                refine wp_region_held_drew (S := fun W => (W.cell? ⟨g13, 0, none⟩ = some (.slice E1 oo.length e1) ∧ W.cell? ⟨g13, 1, none⟩ = some (.slice (some ae) lr.length ep))) (by kernel_rfl) ?_ (fun hHeld => ?_)
                · (try dsimp only)
                  exact hH.1.pt (.head _)
                refine takeSome (i := 0) (v := ?_) (by decide +kernel) rfl (by rfl) (by decide +kernel) (by decide +kernel) (fun _ _ _ h => h) (by assumption) ?_ ?_
                rotate_left
                focus (intro w0 hSw; (try dsimp only at hSw); go_simp; (try (with_reducible rfl)); done)
                (try simp only [Act.put, List.getElem_toArray, List.getElem_cons_zero, List.setIfInBounds_toArray, List.set_cons_zero, List.set_cons_succ])
                refine takeSome (i := 1) (v := ?_) (by decide +kernel) rfl (by rfl) (by decide +kernel) (by decide +kernel) (fun _ _ _ h => h) (by assumption) ?_ ?_
                rotate_left
                focus (intro w0 hSw; (try dsimp only at hSw); go_simp; (try (with_reducible rfl)); done)
                (try simp only [Act.put, List.getElem_toArray, List.getElem_cons_zero, List.getElem_cons_succ, List.setIfInBounds_toArray, List.set_cons_zero, List.set_cons_succ])
                refine takeSome (i := 3) (v := ?_) (by decide +kernel) rfl (by rfl) (by decide +kernel) (by decide +kernel) (fun _ _ _ h => h) (by assumption) ?_ ?_
                rotate_left
                focus (intro w0 hSw; (try dsimp only at hSw); go_simp; (try (with_reducible rfl)); done)
                (try simp only [Act.put, List.getElem_toArray, List.getElem_cons_zero, List.getElem_cons_succ, List.setIfInBounds_toArray, List.set_cons_zero, List.set_cons_succ])
                refine takeSome (i := 4) (v := ?_) (by decide +kernel) rfl (by rfl) (by decide +kernel) (by decide +kernel) (fun _ _ _ h => h) (by assumption) ?_ ?_
                rotate_left
                focus (intro w0 hSw; (try dsimp only at hSw); go_simp; (try (with_reducible rfl)); done)
                (try simp only [Act.put, List.getElem_toArray, List.getElem_cons_zero, List.getElem_cons_succ, List.setIfInBounds_toArray, List.set_cons_zero, List.set_cons_succ])
                refine wpAnyH_ready (rs := [2]) (by decide +kernel) (by simp) ?_
                refine AllReadyH.cons rfl (fun K hK => ?_) AllReadyH.nil
                (try simp only [List.getElem_toArray, List.getElem_cons_zero, List.getElem_cons_succ])
                go_simp
                go_at_call 18
                refine (HK.out _ hH.2).2.2.mono ?_
                rintro e' W5 ⟨rfl, hB5⟩
                have h5 := ktp hH hB5
                refine hK.out _ _ ?_ (fun hHeld => ?_)
                focus ((try dsimp only); exact h5.1.pt (.head _); done)
                clear hK K
                (try simp only [Act.put, List.getElem_toArray, List.getElem_cons_zero, List.getElem_cons_succ, List.setIfInBounds_toArray, List.set_cons_zero, List.set_cons_succ])
                refine wpAnyH_ready (rs := [5]) (by decide +kernel) (by simp) ?_
                refine AllReadyH.cons rfl (fun K hK => ?_) AllReadyH.nil
                (try simp only [List.getElem_toArray, List.getElem_cons_zero, List.getElem_cons_succ])
                go_simp
                go_at_call 18
                refine (HL.out _ h5.2).2.2.mono ?_
                rintro e' W5 ⟨rfl, hB5⟩
                have h6 := ktp h5 hB5
                refine hK.out _ _ ?_ (fun hHeld => ?_)
                focus ((try dsimp only); exact h6.1.pt (.head _); done)
                clear hK K
                (try simp only [Act.put, List.getElem_toArray, List.getElem_cons_zero, List.getElem_cons_succ, List.setIfInBounds_toArray, List.set_cons_zero, List.set_cons_succ])
                refine takeSome (i := 6) (v := ?_) (by decide +kernel) rfl (by rfl) (by decide +kernel) (by decide +kernel) (fun _ _ _ h => h) (by assumption) ?_ ?_
                rotate_left
                focus (intro w0 hSw; (try dsimp only at hSw); go_simp; (try (with_reducible rfl)); done)
                (try simp only [Act.put, List.getElem_toArray, List.getElem_cons_zero, List.getElem_cons_succ, List.setIfInBounds_toArray, List.set_cons_zero, List.set_cons_succ])
                refine takeSome (i := 7) (v := ?_) (by decide +kernel) rfl (by rfl) (by decide +kernel) (by decide +kernel) (fun _ _ _ h => h) (by assumption) ?_ ?_
                rotate_left
                focus (intro w0 hSw; (try dsimp only at hSw); go_simp; (try (with_reducible rfl)); done)
                (try simp only [Act.put, List.getElem_toArray, List.getElem_cons_zero, List.getElem_cons_succ, List.setIfInBounds_toArray, List.set_cons_zero, List.set_cons_succ])
                refine wpAnyH_done (by decide +kernel) ?_ _
                go_wp2_with fail
                go_meet
                exact ⟨rfl, rfl, h6⟩

              case rest =>
                obtain ⟨rfl, rfl, h11⟩ := hcut
                have HT11 := Lib.hid h11
                clear h11
                generalize hW : wc = W11 at *
                clear hW
                go_upto_region 14 with (fail)
                have HKA : Hid (∀ W, (Hold w [(g13, #[Value.slice E1 oo.length e1, Value.slice (some ae) lr.length ep], 26), (g11, #[Value.slice D1 oo.length d1, Value.slice (some ad) lq.length dp], 26), (g4, #[.slice Ao o.length co, .slice Ap l.length cp], 26)] W ∧ Below W9.heap.size W9 W) → ((W.cell? ⟨g11, 0, none⟩ = some (.slice D1 oo.length d1) ∧ W.cell? ⟨g11, 1, none⟩ = some (.slice (some ad) lq.length dp)) ∧ (W.cell? ⟨g13, 0, none⟩ = some (.slice E1 oo.length e1) ∧ W.cell? ⟨g13, 1, none⟩ = some (.slice (some ae) lr.length ep)) ∧ W.cell? ⟨(ad.add (ki * 3)).block, (ad.add (ki * 3)).off + 1, none⟩ = some (.slice X1 rB.length x1) ∧ W.cell? ⟨(ad.add (kj * 3)).block, (ad.add (kj * 3)).off + 1, none⟩ = some (.slice X2 rA.length x2) ∧ W.cell? ⟨(ae.add (kk * 3)).block, (ae.add (kk * 3)).off + 1, none⟩ = some (.slice X3 rA.length x3) ∧ W.cell? ⟨(ae.add (kl * 3)).block, (ae.add (kl * 3)).off + 1, none⟩ = some (.slice X4 rB.length x4))) := fun W h => ⟨h.1.pt (.tail _ (.head _)), h.1.pt (.head _), (HI.out _ h.2).1, (HJ.out _ h.2).1, (HK.out _ h.2).1, (HL.out _ h.2).1⟩
                have hH := ktd HT11.out
                refine wp_region_held_drew (S := fun W => ((W.cell? ⟨g11, 0, none⟩ = some (.slice D1 oo.length d1) ∧ W.cell? ⟨g11, 1, none⟩ = some (.slice (some ad) lq.length dp)) ∧ (W.cell? ⟨g13, 0, none⟩ = some (.slice E1 oo.length e1) ∧ W.cell? ⟨g13, 1, none⟩ = some (.slice (some ae) lr.length ep)) ∧ W.cell? ⟨(ad.add (ki * 3)).block, (ad.add (ki * 3)).off + 1, none⟩ = some (.slice X1 rB.length x1) ∧ W.cell? ⟨(ad.add (kj * 3)).block, (ad.add (kj * 3)).off + 1, none⟩ = some (.slice X2 rA.length x2) ∧ W.cell? ⟨(ae.add (kk * 3)).block, (ae.add (kk * 3)).off + 1, none⟩ = some (.slice X3 rA.length x3) ∧ W.cell? ⟨(ae.add (kl * 3)).block, (ae.add (kl * 3)).off + 1, none⟩ = some (.slice X4 rB.length x4))) (by kernel_rfl) ?_ (fun hHeld => ?_)
                · (try dsimp only)
                  exact HKA.out _ hH
                refine takeSome (i := 0) (v := ?_) (by decide +kernel) rfl (by rfl) (by decide +kernel) (by decide +kernel) (fun _ _ _ h => h) (by assumption) ?_ ?_
                rotate_left
                focus (intro w0 hSw; (try dsimp only at hSw); go_simp; (try (with_reducible rfl)); done)
                (try simp only [Act.put, List.getElem_toArray, List.getElem_cons_zero, List.setIfInBounds_toArray, List.set_cons_zero, List.set_cons_succ])
                refine takeSome (i := 1) (v := ?_) (by decide +kernel) rfl (by rfl) (by decide +kernel) (by decide +kernel) (fun _ _ _ h => h) (by assumption) ?_ ?_
                rotate_left
                focus (intro w0 hSw; (try dsimp only at hSw); go_simp; (try (with_reducible rfl)); done)
                (try simp only [Act.put, List.getElem_toArray, List.getElem_cons_zero, List.getElem_cons_succ, List.setIfInBounds_toArray, List.set_cons_zero, List.set_cons_succ])
                refine takeSome (i := 2) (v := ?_) (by decide +kernel) rfl (by rfl) (by decide +kernel) (by decide +kernel) (fun _ _ _ h => h) (by assumption) ?_ ?_
                rotate_left
                focus (intro w0 hSw; (try dsimp only at hSw); go_simp; (try (with_reducible rfl)); done)
                (try simp only [Act.put, List.getElem_toArray, List.getElem_cons_zero, List.getElem_cons_succ, List.setIfInBounds_toArray, List.set_cons_zero, List.set_cons_succ])
                refine takeSome (i := 3) (v := ?_) (by decide +kernel) rfl (by rfl) (by decide +kernel) (by decide +kernel) (fun _ _ _ h => h) (by assumption) ?_ ?_
                rotate_left
                focus (intro w0 hSw; (try dsimp only at hSw); go_simp; (try (with_reducible rfl)); done)
                (try simp only [Act.put, List.getElem_toArray, List.getElem_cons_zero, List.getElem_cons_succ, List.setIfInBounds_toArray, List.set_cons_zero, List.set_cons_succ])
                refine takeSome (i := 4) (v := ?_) (by decide +kernel) rfl (by rfl) (by decide +kernel) (by decide +kernel) (fun _ _ _ h => h) (by assumption) ?_ ?_
                rotate_left
                focus (intro w0 hSw; (try dsimp only at hSw); go_simp; (try (with_reducible rfl)); done)
                (try simp only [Act.put, List.getElem_toArray, List.getElem_cons_zero, List.getElem_cons_succ, List.setIfInBounds_toArray, List.set_cons_zero, List.set_cons_succ])
                refine takeSome (i := 5) (v := ?_) (by decide +kernel) rfl (by rfl) (by decide +kernel) (by decide +kernel) (fun _ _ _ h => h) (by assumption) ?_ ?_
                rotate_left
                focus (intro w0 hSw; (try dsimp only at hSw); go_simp; (try (with_reducible rfl)); done)
                (try simp only [Act.put, List.getElem_toArray, List.getElem_cons_zero, List.getElem_cons_succ, List.setIfInBounds_toArray, List.set_cons_zero, List.set_cons_succ])
                refine takeSome (i := 6) (v := ?_) (by decide +kernel) rfl (by rfl) (by decide +kernel) (by decide +kernel) (fun _ _ _ h => h) (by assumption) ?_ ?_
                rotate_left
                focus (intro w0 hSw; (try dsimp only at hSw); go_simp; (try (with_reducible rfl)); done)
                (try simp only [Act.put, List.getElem_toArray, List.getElem_cons_zero, List.getElem_cons_succ, List.setIfInBounds_toArray, List.set_cons_zero, List.set_cons_succ])
                refine takeSome (i := 7) (v := ?_) (by decide +kernel) rfl (by rfl) (by decide +kernel) (by decide +kernel) (fun _ _ _ h => h) (by assumption) ?_ ?_
                rotate_left
                focus (intro w0 hSw; (try dsimp only at hSw); go_simp; (try (with_reducible rfl)); done)
                (try simp only [Act.put, List.getElem_toArray, List.getElem_cons_zero, List.getElem_cons_succ, List.setIfInBounds_toArray, List.set_cons_zero, List.set_cons_succ])
                refine takeSome (i := 8) (v := ?_) (by decide +kernel) rfl (by rfl) (by decide +kernel) (by decide +kernel) (fun _ _ _ h => h) (by assumption) ?_ ?_
                rotate_left
                focus (intro w0 hSw; (try dsimp only at hSw); go_simp; (try (with_reducible rfl)); done)
                (try simp only [Act.put, List.getElem_toArray, List.getElem_cons_zero, List.getElem_cons_succ, List.setIfInBounds_toArray, List.set_cons_zero, List.set_cons_succ])
                refine takeSome (i := 9) (v := ?_) (by decide +kernel) rfl (by rfl) (by decide +kernel) (by decide +kernel) (fun _ _ _ h => h) (by assumption) ?_ ?_
                rotate_left
                focus (intro w0 hSw; (try dsimp only at hSw); go_simp; (try (with_reducible rfl)); done)
                (try simp only [Act.put, List.getElem_toArray, List.getElem_cons_zero, List.getElem_cons_succ, List.setIfInBounds_toArray, List.set_cons_zero, List.set_cons_succ])
                refine takeSome (i := 10) (v := ?_) (by decide +kernel) rfl (by rfl) (by decide +kernel) (by decide +kernel) (fun _ _ _ h => h) (by assumption) ?_ ?_
                rotate_left
                focus (intro w0 hSw; (try dsimp only at hSw); go_simp; (try (with_reducible rfl)); done)
                (try simp only [Act.put, List.getElem_toArray, List.getElem_cons_zero, List.getElem_cons_succ, List.setIfInBounds_toArray, List.set_cons_zero, List.set_cons_succ])
                refine takeSome (i := 11) (v := ?_) (by decide +kernel) rfl (by rfl) (by decide +kernel) (by decide +kernel) (fun _ _ _ h => h) (by assumption) ?_ ?_
                rotate_left
                focus (intro w0 hSw; (try dsimp only at hSw); go_simp; (try (with_reducible rfl)); done)
                (try simp only [Act.put, List.getElem_toArray, List.getElem_cons_zero, List.getElem_cons_succ, List.setIfInBounds_toArray, List.set_cons_zero, List.set_cons_succ])
                refine takeSome (i := 12) (v := ?_) (by decide +kernel) rfl (by rfl) (by decide +kernel) (by decide +kernel) (fun _ _ _ h => h) (by assumption) ?_ ?_
                rotate_left
                focus (intro w0 hSw; (try dsimp only at hSw); go_simp; (try (with_reducible rfl)); done)
                (try simp only [Act.put, List.getElem_toArray, List.getElem_cons_zero, List.getElem_cons_succ, List.setIfInBounds_toArray, List.set_cons_zero, List.set_cons_succ])
                refine takeSome (i := 13) (v := ?_) (by decide +kernel) rfl (by rfl) (by decide +kernel) (by decide +kernel) (fun _ _ _ h => h) (by assumption) ?_ ?_
                rotate_left
                focus (intro w0 hSw; (try dsimp only at hSw); go_simp; (try (with_reducible rfl)); done)
                (try simp only [Act.put, List.getElem_toArray, List.getElem_cons_zero, List.getElem_cons_succ, List.setIfInBounds_toArray, List.set_cons_zero, List.set_cons_succ])
                refine takeSome (i := 14) (v := ?_) (by decide +kernel) rfl (by rfl) (by decide +kernel) (by decide +kernel) (fun _ _ _ h => h) (by assumption) ?_ ?_
                rotate_left
                focus (intro w0 hSw; (try dsimp only at hSw); go_simp; (try (with_reducible rfl)); done)
                (try simp only [Act.put, List.getElem_toArray, List.getElem_cons_zero, List.getElem_cons_succ, List.setIfInBounds_toArray, List.set_cons_zero, List.set_cons_succ])
                refine takeSome (i := 15) (v := ?_) (by decide +kernel) rfl (by rfl) (by decide +kernel) (by decide +kernel) (fun _ _ _ h => h) (by assumption) ?_ ?_
                rotate_left
                focus (intro w0 hSw; (try dsimp only at hSw); go_simp; (try (with_reducible rfl)); done)
                (try simp only [Act.put, List.getElem_toArray, List.getElem_cons_zero, List.getElem_cons_succ, List.setIfInBounds_toArray, List.set_cons_zero, List.set_cons_succ])
                refine takeSome (i := 16) (v := ?_) (by decide +kernel) rfl (by rfl) (by decide +kernel) (by decide +kernel) (fun _ _ _ h => h) (by assumption) ?_ ?_
                rotate_left
                focus (intro w0 hSw; (try dsimp only at hSw); go_simp; (try (with_reducible rfl)); done)
                (try simp only [Act.put, List.getElem_toArray, List.getElem_cons_zero, List.getElem_cons_succ, List.setIfInBounds_toArray, List.set_cons_zero, List.set_cons_succ])
                refine takeSome (i := 17) (v := ?_) (by decide +kernel) rfl (by rfl) (by decide +kernel) (by decide +kernel) (fun _ _ _ h => h) (by assumption) ?_ ?_
                rotate_left
                focus (intro w0 hSw; (try dsimp only at hSw); go_simp; (try (with_reducible rfl)); done)
                (try simp only [Act.put, List.getElem_toArray, List.getElem_cons_zero, List.getElem_cons_succ, List.setIfInBounds_toArray, List.set_cons_zero, List.set_cons_succ])
                refine takeSome (i := 18) (v := ?_) (by decide +kernel) rfl (by rfl) (by decide +kernel) (by decide +kernel) (fun _ _ _ h => h) (by assumption) ?_ ?_
                rotate_left
                focus (intro w0 hSw; (try dsimp only at hSw); go_simp; (try (with_reducible rfl)); done)
                (try simp only [Act.put, List.getElem_toArray, List.getElem_cons_zero, List.getElem_cons_succ, List.setIfInBounds_toArray, List.set_cons_zero, List.set_cons_succ])
                refine takeSome (i := 19) (v := ?_) (by decide +kernel) rfl (by rfl) (by decide +kernel) (by decide +kernel) (fun _ _ _ h => h) (by assumption) ?_ ?_
                rotate_left
                focus (intro w0 hSw; (try dsimp only at hSw); go_simp; (try (with_reducible rfl)); done)
                (try simp only [Act.put, List.getElem_toArray, List.getElem_cons_zero, List.getElem_cons_succ, List.setIfInBounds_toArray, List.set_cons_zero, List.set_cons_succ])
                refine takeSome (i := 20) (v := ?_) (by decide +kernel) rfl (by rfl) (by decide +kernel) (by decide +kernel) (fun _ _ _ h => h) (by assumption) ?_ ?_
                rotate_left
                focus (intro w0 hSw; (try dsimp only at hSw); go_simp; (try (with_reducible rfl)); done)
                (try simp only [Act.put, List.getElem_toArray, List.getElem_cons_zero, List.getElem_cons_succ, List.setIfInBounds_toArray, List.set_cons_zero, List.set_cons_succ])
                refine takeSome (i := 21) (v := ?_) (by decide +kernel) rfl (by rfl) (by decide +kernel) (by decide +kernel) (fun _ _ _ h => h) (by assumption) ?_ ?_
                rotate_left
                focus (intro w0 hSw; (try dsimp only at hSw); go_simp; (try (with_reducible rfl)); done)
                (try simp only [Act.put, List.getElem_toArray, List.getElem_cons_zero, List.getElem_cons_succ, List.setIfInBounds_toArray, List.set_cons_zero, List.set_cons_succ])
                refine takeSome (i := 22) (v := ?_) (by decide +kernel) rfl (by rfl) (by decide +kernel) (by decide +kernel) (fun _ _ _ h => h) (by assumption) ?_ ?_
                rotate_left
                focus (intro w0 hSw; (try dsimp only at hSw); go_simp; (try (with_reducible rfl)); done)
                (try simp only [Act.put, List.getElem_toArray, List.getElem_cons_zero, List.getElem_cons_succ, List.setIfInBounds_toArray, List.set_cons_zero, List.set_cons_succ])
                refine takeSome (i := 23) (v := ?_) (by decide +kernel) rfl (by rfl) (by decide +kernel) (by decide +kernel) (fun _ _ _ h => h) (by assumption) ?_ ?_
                rotate_left
                focus (intro w0 hSw; (try dsimp only at hSw); go_simp; (try (with_reducible rfl)); done)
                (try simp only [Act.put, List.getElem_toArray, List.getElem_cons_zero, List.getElem_cons_succ, List.setIfInBounds_toArray, List.set_cons_zero, List.set_cons_succ])
                refine takeSome (i := 24) (v := ?_) (by decide +kernel) rfl (by rfl) (by decide +kernel) (by decide +kernel) (fun _ _ _ h => h) (by assumption) ?_ ?_
                rotate_left
                focus (intro w0 hSw; (try dsimp only at hSw); go_simp; (try (with_reducible rfl)); done)
                (try simp only [Act.put, List.getElem_toArray, List.getElem_cons_zero, List.getElem_cons_succ, List.setIfInBounds_toArray, List.set_cons_zero, List.set_cons_succ])
                refine takeSome (i := 25) (v := ?_) (by decide +kernel) rfl (by rfl) (by decide +kernel) (by decide +kernel) (fun _ _ _ h => h) (by assumption) ?_ ?_
                rotate_left
                focus (intro w0 hSw; (try dsimp only at hSw); go_simp; (try (with_reducible rfl)); done)
                (try simp only [Act.put, List.getElem_toArray, List.getElem_cons_zero, List.getElem_cons_succ, List.setIfInBounds_toArray, List.set_cons_zero, List.set_cons_succ])
                refine takeSome (i := 26) (v := ?_) (by decide +kernel) rfl (by rfl) (by decide +kernel) (by decide +kernel) (fun _ _ _ h => h) (by assumption) ?_ ?_
                rotate_left
                focus (intro w0 hSw; (try dsimp only at hSw); go_simp; (try (with_reducible rfl)); done)
                (try simp only [Act.put, List.getElem_toArray, List.getElem_cons_zero, List.getElem_cons_succ, List.setIfInBounds_toArray, List.set_cons_zero, List.set_cons_succ])
                refine wpAnyH_ready (rs := [27]) (by decide +kernel) (by simp) ?_
                refine AllReadyH.cons rfl (fun K hK => ?_) AllReadyH.nil
                (try simp only [List.getElem_toArray, List.getElem_cons_zero, List.getElem_cons_succ])
                go_simp
                (go_at_call 21; refine (HR2.out _ hH.2).mono ?_; rintro e' W6 ⟨rfl, hB6⟩; have h5 := ktp hH hB6)
                refine hK.out _ _ ?_ (fun hHeld => ?_)
                focus ((try dsimp only); exact HKA.out _ h5; done)
                clear hK K
                (try simp only [Act.put, List.getElem_toArray, List.getElem_cons_zero, List.getElem_cons_succ, List.setIfInBounds_toArray, List.set_cons_zero, List.set_cons_succ])
                refine takeSome (i := 28) (v := ?_) (by decide +kernel) rfl (by rfl) (by decide +kernel) (by decide +kernel) (fun _ _ _ h => h) (by assumption) ?_ ?_
                rotate_left
                focus (intro w0 hSw; (try dsimp only at hSw); go_simp; (try (with_reducible rfl)); done)
                (try simp only [Act.put, List.getElem_toArray, List.getElem_cons_zero, List.getElem_cons_succ, List.setIfInBounds_toArray, List.set_cons_zero, List.set_cons_succ])
                refine takeSome (i := 29) (v := ?_) (by decide +kernel) rfl (by rfl) (by decide +kernel) (by decide +kernel) (fun _ _ _ h => h) (by assumption) ?_ ?_
                rotate_left
                focus (intro w0 hSw; (try dsimp only at hSw); go_simp; (try (with_reducible rfl)); done)
                (try simp only [Act.put, List.getElem_toArray, List.getElem_cons_zero, List.getElem_cons_succ, List.setIfInBounds_toArray, List.set_cons_zero, List.set_cons_succ])
                refine takeSome (i := 30) (v := ?_) (by decide +kernel) rfl (by rfl) (by decide +kernel) (by decide +kernel) (fun _ _ _ h => h) (by assumption) ?_ ?_
                rotate_left
                focus (intro w0 hSw; (try dsimp only at hSw); go_simp; (try (with_reducible rfl)); done)
                (try simp only [Act.put, List.getElem_toArray, List.getElem_cons_zero, List.getElem_cons_succ, List.setIfInBounds_toArray, List.set_cons_zero, List.set_cons_succ])
                refine takeSome (i := 31) (v := ?_) (by decide +kernel) rfl (by rfl) (by decide +kernel) (by decide +kernel) (fun _ _ _ h => h) (by assumption) ?_ ?_
                rotate_left
                focus (intro w0 hSw; (try dsimp only at hSw); go_simp; (try (with_reducible rfl)); done)
                (try simp only [Act.put, List.getElem_toArray, List.getElem_cons_zero, List.getElem_cons_succ, List.setIfInBounds_toArray, List.set_cons_zero, List.set_cons_succ])
                refine takeSome (i := 32) (v := ?_) (by decide +kernel) rfl (by rfl) (by decide +kernel) (by decide +kernel) (fun _ _ _ h => h) (by assumption) ?_ ?_
                rotate_left
                focus (intro w0 hSw; (try dsimp only at hSw); go_simp; (try (with_reducible rfl)); done)
                (try simp only [Act.put, List.getElem_toArray, List.getElem_cons_zero, List.getElem_cons_succ, List.setIfInBounds_toArray, List.set_cons_zero, List.set_cons_succ])
                refine takeSome (i := 33) (v := ?_) (by decide +kernel) rfl (by rfl) (by decide +kernel) (by decide +kernel) (fun _ _ _ h => h) (by assumption) ?_ ?_
                rotate_left
                focus (intro w0 hSw; (try dsimp only at hSw); go_simp; (try (with_reducible rfl)); done)
                (try simp only [Act.put, List.getElem_toArray, List.getElem_cons_zero, List.getElem_cons_succ, List.setIfInBounds_toArray, List.set_cons_zero, List.set_cons_succ])
                refine takeSome (i := 34) (v := ?_) (by decide +kernel) rfl (by rfl) (by decide +kernel) (by decide +kernel) (fun _ _ _ h => h) (by assumption) ?_ ?_
                rotate_left
                focus (intro w0 hSw; (try dsimp only at hSw); go_simp; (try (with_reducible rfl)); done)
                (try simp only [Act.put, List.getElem_toArray, List.getElem_cons_zero, List.getElem_cons_succ, List.setIfInBounds_toArray, List.set_cons_zero, List.set_cons_succ])
                refine takeSome (i := 35) (v := ?_) (by decide +kernel) rfl (by rfl) (by decide +kernel) (by decide +kernel) (fun _ _ _ h => h) (by assumption) ?_ ?_
                rotate_left
                focus (intro w0 hSw; (try dsimp only at hSw); go_simp; (try (with_reducible rfl)); done)
                (try simp only [Act.put, List.getElem_toArray, List.getElem_cons_zero, List.getElem_cons_succ, List.setIfInBounds_toArray, List.set_cons_zero, List.set_cons_succ])
                refine takeSome (i := 36) (v := ?_) (by decide +kernel) rfl (by rfl) (by decide +kernel) (by decide +kernel) (fun _ _ _ h => h) (by assumption) ?_ ?_
                rotate_left
                focus (intro w0 hSw; (try dsimp only at hSw); go_simp; (try (with_reducible rfl)); done)
                (try simp only [Act.put, List.getElem_toArray, List.getElem_cons_zero, List.getElem_cons_succ, List.setIfInBounds_toArray, List.set_cons_zero, List.set_cons_succ])
                refine takeSome (i := 37) (v := ?_) (by decide +kernel) rfl (by rfl) (by decide +kernel) (by decide +kernel) (fun _ _ _ h => h) (by assumption) ?_ ?_
                rotate_left
                focus (intro w0 hSw; (try dsimp only at hSw); go_simp; (try (with_reducible rfl)); done)
                (try simp only [Act.put, List.getElem_toArray, List.getElem_cons_zero, List.getElem_cons_succ, List.setIfInBounds_toArray, List.set_cons_zero, List.set_cons_succ])
                refine takeSome (i := 38) (v := ?_) (by decide +kernel) rfl (by rfl) (by decide +kernel) (by decide +kernel) (fun _ _ _ h => h) (by assumption) ?_ ?_
                rotate_left
                focus (intro w0 hSw; (try dsimp only at hSw); go_simp; (try (with_reducible rfl)); done)
                (try simp only [Act.put, List.getElem_toArray, List.getElem_cons_zero, List.getElem_cons_succ, List.setIfInBounds_toArray, List.set_cons_zero, List.set_cons_succ])
                refine takeSome (i := 39) (v := ?_) (by decide +kernel) rfl (by rfl) (by decide +kernel) (by decide +kernel) (fun _ _ _ h => h) (by assumption) ?_ ?_
                rotate_left
                focus (intro w0 hSw; (try dsimp only at hSw); go_simp; (try (with_reducible rfl)); done)
                (try simp only [Act.put, List.getElem_toArray, List.getElem_cons_zero, List.getElem_cons_succ, List.setIfInBounds_toArray, List.set_cons_zero, List.set_cons_succ])
                refine takeSome (i := 40) (v := ?_) (by decide +kernel) rfl (by rfl) (by decide +kernel) (by decide +kernel) (fun _ _ _ h => h) (by assumption) ?_ ?_
                rotate_left
                focus (intro w0 hSw; (try dsimp only at hSw); go_simp; (try (with_reducible rfl)); done)
                (try simp only [Act.put, List.getElem_toArray, List.getElem_cons_zero, List.getElem_cons_succ, List.setIfInBounds_toArray, List.set_cons_zero, List.set_cons_succ])
                refine takeSome (i := 41) (v := ?_) (by decide +kernel) rfl (by rfl) (by decide +kernel) (by decide +kernel) (fun _ _ _ h => h) (by assumption) ?_ ?_
                rotate_left
                focus (intro w0 hSw; (try dsimp only at hSw); go_simp; (try (with_reducible rfl)); done)
                (try simp only [Act.put, List.getElem_toArray, List.getElem_cons_zero, List.getElem_cons_succ, List.setIfInBounds_toArray, List.set_cons_zero, List.set_cons_succ])
                refine wpAnyH_ready (rs := [42]) (by decide +kernel) (by simp) ?_
                refine AllReadyH.cons rfl (fun K hK => ?_) AllReadyH.nil
                (try simp only [List.getElem_toArray, List.getElem_cons_zero, List.getElem_cons_succ])
                go_simp
                (go_at_call 21; refine (HR1.out _ h5.2).mono ?_; rintro e' W6 ⟨rfl, hB6⟩; have h6 := ktp h5 hB6)
                refine hK.out _ _ ?_ (fun hHeld => ?_)
                focus ((try dsimp only); exact HKA.out _ h6; done)
                clear hK K
                (try simp only [Act.put, List.getElem_toArray, List.getElem_cons_zero, List.getElem_cons_succ, List.setIfInBounds_toArray, List.set_cons_zero, List.set_cons_succ])
                refine takeSome (i := 43) (v := ?_) (by decide +kernel) rfl (by rfl) (by decide +kernel) (by decide +kernel) (fun _ _ _ h => h) (by assumption) ?_ ?_
                rotate_left
                focus (intro w0 hSw; (try dsimp only at hSw); go_simp; (try (with_reducible rfl)); done)
                (try simp only [Act.put, List.getElem_toArray, List.getElem_cons_zero, List.getElem_cons_succ, List.setIfInBounds_toArray, List.set_cons_zero, List.set_cons_succ])
                refine takeSome (i := 44) (v := ?_) (by decide +kernel) rfl (by rfl) (by decide +kernel) (by decide +kernel) (fun _ _ _ h => h) (by assumption) ?_ ?_
                rotate_left
                focus (intro w0 hSw; (try dsimp only at hSw); go_simp; (try (with_reducible rfl)); done)
                (try simp only [Act.put, List.getElem_toArray, List.getElem_cons_zero, List.getElem_cons_succ, List.setIfInBounds_toArray, List.set_cons_zero, List.set_cons_succ])
                refine takeSome (i := 45) (v := ?_) (by decide +kernel) rfl (by rfl) (by decide +kernel) (by decide +kernel) (fun _ _ _ h => h) (by assumption) ?_ ?_
                rotate_left
                focus (intro w0 hSw; (try dsimp only at hSw); go_simp; (try (with_reducible rfl)); done)
                (try simp only [Act.put, List.getElem_toArray, List.getElem_cons_zero, List.getElem_cons_succ, List.setIfInBounds_toArray, List.set_cons_zero, List.set_cons_succ])
                refine takeSome (i := 46) (v := ?_) (by decide +kernel) rfl (by rfl) (by decide +kernel) (by decide +kernel) (fun _ _ _ h => h) (by assumption) ?_ ?_
                rotate_left
                focus (intro w0 hSw; (try dsimp only at hSw); go_simp; (try (with_reducible rfl)); done)
                (try simp only [Act.put, List.getElem_toArray, List.getElem_cons_zero, List.getElem_cons_succ, List.setIfInBounds_toArray, List.set_cons_zero, List.set_cons_succ])
                refine takeSome (i := 47) (v := ?_) (by decide +kernel) rfl (by rfl) (by decide +kernel) (by decide +kernel) (fun _ _ _ h => h) (by assumption) ?_ ?_
                rotate_left
                focus (intro w0 hSw; (try dsimp only at hSw); go_simp; (try (with_reducible rfl)); done)
                (try simp only [Act.put, List.getElem_toArray, List.getElem_cons_zero, List.getElem_cons_succ, List.setIfInBounds_toArray, List.set_cons_zero, List.set_cons_succ])
                refine takeSome (i := 48) (v := ?_) (by decide +kernel) rfl (by rfl) (by decide +kernel) (by decide +kernel) (fun _ _ _ h => h) (by assumption) ?_ ?_
                rotate_left
                focus (intro w0 hSw; (try dsimp only at hSw); go_simp; (try (with_reducible rfl)); done)
                (try simp only [Act.put, List.getElem_toArray, List.getElem_cons_zero, List.getElem_cons_succ, List.setIfInBounds_toArray, List.set_cons_zero, List.set_cons_succ])
                refine wpAnyH_ready (rs := [49]) (by decide +kernel) (by simp) ?_
                refine AllReadyH.cons rfl (fun K hK => ?_) AllReadyH.nil
                (try simp only [List.getElem_toArray, List.getElem_cons_zero, List.getElem_cons_succ])
                go_simp
                (go_at_call 21; refine (HRO.out _ h6.2).mono ?_; rintro e' W6 ⟨rfl, hB6⟩; have h7 := ktp h6 hB6)
                refine hK.out _ _ ?_ (fun hHeld => ?_)
                focus ((try dsimp only); exact HKA.out _ h7; done)
                clear hK K
                (try simp only [Act.put, List.getElem_toArray, List.getElem_cons_zero, List.getElem_cons_succ, List.setIfInBounds_toArray, List.set_cons_zero, List.set_cons_succ])
                refine takeSome (i := 50) (v := ?_) (by decide +kernel) rfl (by rfl) (by decide +kernel) (by decide +kernel) (fun _ _ _ h => h) (by assumption) ?_ ?_
                rotate_left
                focus (intro w0 hSw; (try dsimp only at hSw); go_simp; (try (with_reducible rfl)); done)
                (try simp only [Act.put, List.getElem_toArray, List.getElem_cons_zero, List.getElem_cons_succ, List.setIfInBounds_toArray, List.set_cons_zero, List.set_cons_succ])
                refine takeSome (i := 51) (v := ?_) (by decide +kernel) rfl (by rfl) (by decide +kernel) (by decide +kernel) (fun _ _ _ h => h) (by assumption) ?_ ?_
                rotate_left
                focus (intro w0 hSw; (try dsimp only at hSw); go_simp; (try (with_reducible rfl)); done)
                (try simp only [Act.put, List.getElem_toArray, List.getElem_cons_zero, List.getElem_cons_succ, List.setIfInBounds_toArray, List.set_cons_zero, List.set_cons_succ])

                refine wpAnyH_done (by decide +kernel) ?_ _
                go_wp2
                go_ret
                exact ⟨rfl, h7.1.1⟩
end Go.Proofs.YtplbfiglkllljaaGreat
