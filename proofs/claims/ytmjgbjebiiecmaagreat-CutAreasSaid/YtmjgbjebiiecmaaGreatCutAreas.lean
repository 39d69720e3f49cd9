/- The walk of CutAreas. -/
import Derived.Test.YtmjgbjebiiecmaaGreatCutOnce
import Derived.Test.YtmjgbjebiiecmaaGreatCutV
import Derived.Test.YtmjgbjebiiecmaaGreatRefSame
namespace Go.Proofs.YtmjgbjebiiecmaaGreat
open Go.RowKit

/-- What the parts come to, so far. -/
def cutF (id fresh : Int) (y : Par) : Int := if y.id = id ∨ y.id = fresh then area y.ring else 0
theorem cutF_lim {ps : List Par} (id fresh : Int) (h : ∀ y ∈ ps, NormP y.ring) : ∀ k, k ≤ ps.length → -(k * 295147905179352825856) ≤ sumL (cutF id fresh) (ps.take k) ∧ sumL (cutF id fresh) (ps.take k) ≤ k * 295147905179352825856
  | 0, _ => by simp [sumL]
  | k + 1, hk => by
    have ih := cutF_lim id fresh h k (by omega)
    rw [List.take_succ_eq_append_getElem (by omega), sumL_append]
    have hl := area_lim (h ps[k] (List.getElem_mem _)).1
    have : sumL (cutF id fresh) [ps[k]] = cutF id fresh ps[k] := by simp [sumL]
    rw [this]
    have hc : -295147905179352825856 ≤ cutF id fresh ps[k] ∧ cutF id fresh ps[k] ≤ 295147905179352825856 := by
      unfold cutF
      split <;> omega
    generalize sumL (cutF id fresh) (ps.take k) = u at *
    generalize cutF id fresh ps[k] = v at *
    omega
/-- Where a parcel of a plan lies: its place, its ring, its owner, and At's answer. -/
theorem part_there {W : World} {o : List (Int × Int)} {D : Option Addr} {d : Nat} {lq : List PV} {Dp : Option Addr} {dp : Nat} {n : Int} {r : List (Int × Int)} {own : ByteArray} (h : PlanAt W o D d lq Dp dp) (hn : lq.length ≤ 1000000) (hQ : PlanQ o (lq.map PV.par)) (hm : (⟨n, r, own⟩ : Par) ∈ lq.map PV.par) :
    ∃ (k : Nat) (ad : Addr) (X : Option Addr) (x : Nat), k < lq.length ∧ Dp = some ad ∧ ∀ W', Below W.heap.size W W' → (W'.cell? ⟨(ad.add (k * 3)).block, (ad.add (k * 3)).off + 1, none⟩ = some (.slice X r.length x) ∧ W'.cell? ⟨(ad.add (k * 3)).block, (ad.add (k * 3)).off + 2, none⟩ = some (.string own)) ∧ Pts W' W'.heap.size X r ∧ Calls Tryz.prog 20 #[.agg #[.slice D o.length d, .slice Dp lq.length dp], .int .i64 n] W' fun e' w' => e' = .returned (.int .i64 (k : Int)) ∧ Below W'.heap.size W' w' := by
  have hmm : n ∈ lq.map fun x => x.par.id := by
    obtain ⟨y, hy, e⟩ := List.mem_map.1 hm
    exact List.mem_map.2 ⟨y, hy, by rw [e]⟩
  have hlt := posL_lt hmm
  have hg := (posL_at hmm).1
  rw [List.length_map] at hlt
  rw [List.getElem?_map, List.getElem?_eq_getElem hlt] at hg
  have hid := Option.some.inj hg
  have hpar := hQ.one (List.mem_map_of_mem (f := PV.par) (List.getElem_mem hlt)) hm hid
  obtain ⟨ad, hA, -⟩ := h.prs.at hlt
  refine ⟨posL (lq.map fun x => x.par.id) n, ad, lq[posL (lq.map fun x => x.par.id) n].A, lq[posL (lq.map fun x => x.par.id) n].cap, hlt, hA, fun W' hb => ⟨?_, ?_, (ref_at o D d lq Dp dp n hn W' (h.prs.on hb)).mono fun e w' ⟨m, h1, h2, h3⟩ => ⟨by rw [h1, plc_pos h2 hmm], h3⟩⟩⟩
  · have hc := (Prs.cells hA (h.prs.on hb) (List.getElem?_eq_getElem hlt) (Below.refl _ W')).2
    rw [hpar] at hc
    exact hc
  · have hp := ((h.prs.on hb).2 _ (List.getElem_mem hlt)).1
    rw [hpar] at hp
    exact hp
theorem nil_same (W : World) : Calls Tryz.prog 18 #[.agg #[.slice none 0 0, .slice none 0 0], .agg #[.slice none 0 0, .slice none 0 0]] W fun e w' => e = .returned (.bool true) ∧ Below W.heap.size W w' := by
  have h := ref_samePlan [] [] none 0 [] none 0 none 0 [] none 0 (Nat.zero_le _) (Nat.zero_le _) W ⟨Items.nil _ _ _ _, fun x hx => nomatch hx⟩ ⟨Items.nil _ _ _ _, fun x hx => nomatch hx⟩ (fun hp => absurd hp (by simp)) (fun hp => absurd hp (by simp))
  rw [show decide (([] : List (Int × Int)) = [] ∧ ([] : List PV).map PV.par = ([] : List PV).map PV.par) = true by simp] at h
  exact h
/-- Where a parcel stands. -/
theorem at_any (o : List (Int × Int)) (Ao : Option Addr) (co : Nat) (l : List PV) (Ap : Option Addr) (cp : Nat) (id : Int) (hn : l.length ≤ 1000000) (hid : id ∈ idsQ (l.map PV.par)) (w : World) (hr : Prs w Ap l) :
    ∃ (k : Nat) (hk : k < l.length), l[k].par.id = id ∧ Calls Tryz.prog 20 #[.agg #[.slice Ao o.length co, .slice Ap l.length cp], .int .i64 id] w fun e' w' => e' = .returned (.int .i64 (k : Int)) ∧ Below w.heap.size w w' := by
  have hm : id ∈ l.map fun x => x.par.id := by
    unfold idsQ at hid
    rw [List.map_map] at hid
    exact hid
  have hlt := posL_lt hm
  have hg := (posL_at hm).1
  rw [List.length_map] at hlt
  refine ⟨posL (l.map fun x => x.par.id) id, hlt, ?_, (ref_at o Ao co l Ap cp id hn w hr).mono fun e w' ⟨n, h1, h2, h3⟩ => ⟨by rw [h1, plc_pos h2 hm], h3⟩⟩
  rw [List.getElem?_map, List.getElem?_eq_getElem hlt] at hg
  exact Option.some.inj hg
set_option maxRecDepth 100000 in
set_option maxHeartbeats 2000000 in
theorem areas_walk (o : List (Int × Int)) (Ao : Option Addr) (co : Nat) (l : List PV) (Ap : Option Addr) (cp : Nat) (id : Int) (path : List (Int × Int)) (A : Option Addr) (ca : Nat) (fresh : Int) (hl : l.length ≤ 8796093022208) (hown : ∀ x ∈ l, x.par.own.size ≤ maxLen) (hn : path.length * 16 ≤ 140737488355328) (hnA : NilOk A ca) (w : World) (h : PlanAt w o Ao co l Ap cp) (hq : Pts w w.heap.size A path) :
    Calls Tryz.prog 4 #[.agg #[.slice Ao o.length co, .slice Ap l.length cp], .int .i64 id, .slice A path.length ca, .int .i64 fresh] w fun e w' => e = .returned (.bool true) ∧ Below w.heap.size w w' := by
  have HAN := Lib.hid (fun W => cut_answers W)
  have HFW := Lib.hid (fun K W (hh : Hold w K W) => few6_any o Ao co l Ap cp (by have := h.room; omega) W (h.prs.on hh.1))
  have HSP := Lib.hid (fun (hl : l.length ≤ 80) K W (hh : Hold w K W) => lawSplit_any o Ao co l Ap cp id path A ca fresh (by omega) (by have := h.room; omega) hown hn hnA W (h.on hh.1) (hq.on hh.1))
  have HPL := Lib.hid (fun K W (hh : Hold w K W) => h.on hh.1)
  have HL : Hid (path.length ≤ 9000000000000000000) := by unfold Hid; omega
  have HQ := (Hold.refl w).new #[.slice Ao o.length co, .slice Ap l.length cp] 26
  clear h hq hl hown hn hnA
  go_enter Tryz.func4, Tryz.ntmps4
  go_upto_region 1 with (fail)
  generalize (World.alloc _ _) = W1 at HQ ⊢
  obtain ⟨g4, hg4⟩ : ∃ g, w.heap.size = g := ⟨_, rfl⟩
  rw [hg4] at HQ ⊢
  have HG4 := Lib.hid hg4
  clear hg4
  have HQ1 := Lib.hid HQ
  clear HQ
  go_wp2_with fail
  go_at_call 14
  refine (HAN.out _).mono ?_
  rintro e' W2 ⟨rfl, hB⟩
  have hq2 := HQ1.out.on hB
  obtain ⟨c0, c1⟩ := hq2.pt (.head _)
  have HQ2 := Lib.hid hq2
  clear hB hq2
  go_wp2_with fail
  go_at_call 15
  refine (HFW.out _ _ HQ2.out).mono ?_
  rintro e' W3 ⟨b, rfl, hb80, hB⟩
  have hq3 := HQ2.out.on hB
  have HB80 := Lib.hid hb80
  clear c0 c1 hB hb80
  obtain ⟨c0, c1⟩ := hq3.pt (.head _)
  have HQ3 := Lib.hid hq3
  clear hq3
  cases b
  · go_wp2_with (go_at_call 14; go_must (refine (HAN.out _).mono ?_; rintro e' W8 ⟨rfl, hB⟩; have HQ8 := Lib.hid (HQ3.out.on hB); clear hB))
    go_ret
    exact ⟨rfl, HQ8.out.1⟩
  · by_cases h150 : 150 < path.length
    · have h1 : 150 < (path.length : Int) := by omega
      go_wp2_with (go_at_call 14; go_must (refine (HAN.out _).mono ?_; rintro e' W8 ⟨rfl, hB⟩; have HQ8 := Lib.hid (HQ3.out.on hB); clear hB))
      go_ret
      exact ⟨rfl, HQ8.out.1⟩
    · have h1 : ¬ 150 < (path.length : Int) := by omega
      have HL80 : Hid (l.length ≤ 80) := (HB80.out (by first | trivial | rfl)).2.2
      clear HB80
      go_wp2_with fail
      go_at_call 16
      refine (HSP.out HL80.out _ _ HQ3.out).mono ?_
      rintro e' W4 ⟨hB, ⟨hne, rfl⟩ | ⟨hz, D1, d1, Dp, dp, lq, rfl, hml, r1, r2, r3⟩⟩
      · have hq4 := (HQ3.out.on hB).new #[.slice none 0 0, .slice none 0 0] 26
        have HQ4 := Lib.hid hq4
        have e0 : (sptE o (l.map PV.par) id path fresh == 0) = false := by simpa using hne
        have f0 : ¬ sptE o (l.map PV.par) id path fresh = 0 := hne
        obtain ⟨d0, d1⟩ := hq4.pt (.head _)
        clear hB hq4 hne c0 c1
        generalize sptE o (l.map PV.par) id path fresh = se at *
        go_wp2_with (go_at_call 18; go_must (refine (nil_same _).mono ?_; rintro e' W8 ⟨rfl, hB⟩; have HQ8 := Lib.hid (HQ4.out.on hB); clear hB))
        go_ret
        exact ⟨rfl, HQ8.out.1⟩
      · obtain ⟨hpl, hl2, ho2, hw2⟩ := split_plan hz hml r1 r2 r3
        have hP := (chkQ_iff _ _).1 (sp_zero hz).1
        have hQ := (chkQ_iff _ _).1 (sp_zero hz).2.2.2
        have hid := (sp_zero hz).2.1
        have hq4 := (HQ3.out.on hB).new #[.slice D1 (putE o path).length d1, .slice Dp lq.length dp] 26
        have hp4 := hpl.on ((Below.refl _ W4).alloc (Nat.le_refl _) (.cells #[.slice D1 (putE o path).length d1, .slice Dp lq.length dp] 26 (0, 0)))
        obtain ⟨ka, hka, hkid, -⟩ := at_any o Ao co l Ap cp id (by have := HL80.out; omega) hid _ (HPL.out _ _ HQ3.out).prs
        have HAT := Lib.hid (fun K W (hh : Hold w K W) => by
          obtain ⟨k, hk, hi, hc⟩ := at_any o Ao co l Ap cp id (by have := HL80.out; omega) hid W (HPL.out _ _ hh).prs
          have e := hP.ids
          have : k = ka := by
            have h1 := List.pairwise_iff_getElem.1 hP.fine.1
            rcases Nat.lt_trichotomy k ka with h | h | h
            · have := h1 k ka (by rw [List.length_map]; exact hk) (by rw [List.length_map]; exact hka) h
              rw [List.getElem_map, List.getElem_map, hi, hkid] at this
              omega
            · exact h
            · have := h1 ka k (by rw [List.length_map]; exact hka) (by rw [List.length_map]; exact hk) h
              rw [List.getElem_map, List.getElem_map, hi, hkid] at this
              omega
          rw [this] at hc
          exact hc)
        have hrx : rgQ (l.map PV.par) id = l[ka].par.ring := hP.ring_of (List.mem_map_of_mem (List.getElem_mem hka)) hkid
        have HAR := Lib.hid (fun K W (hh : Hold w K W) => ref_area_good l[ka].par.ring l[ka].A l[ka].cap (normP_small (hP.each _ (List.mem_map_of_mem (List.getElem_mem hka)))).1 W ((HPL.out _ _ hh).prs.2 _ (List.getElem_mem hka)).1)
        have hsa := sp_areas hz
        rw [hrx] at hsa
        have HOP := Lib.hid (fun K W (hh : Hold w K W) => ref_area_good o Ao co (normP_small hP.out).1 W (HPL.out _ _ hh).out)
        have HSA := Lib.hid hsa
        have HEA := Lib.hid (fun (y : PV) (hy : y ∈ lq) => sp_each hz (y := y.par) (by rw [← hml]; exact List.mem_map_of_mem hy))
        have HLQ := Lib.hid (show lq.length = l.length + 1 by
          have h1 := congrArg List.length hml
          rw [List.length_map, sp_len hz, List.length_map] at h1
          exact h1)
        have HNQ := Lib.hid (fun (y : PV) (hy : y ∈ lq) => hQ.each y.par (by rw [← hml]; exact List.mem_map_of_mem hy))
        have HMQ := Lib.hid hml
        have HP := Lib.hid hP
        have HQQ := Lib.hid hQ
        have HZL : Hid (lq.length ≤ 64) := hl2
        have HPX : Hid (∀ K W, Hold w K W → ∃ ad, Ap = some ad ∧ W.cell? ⟨(ad.add (ka * 3)).block, (ad.add (ka * 3)).off + 1, none⟩ = some (.slice l[ka].A l[ka].par.ring.length l[ka].cap)) := fun K W hh => by
          obtain ⟨ad, e, -, -, h2, -⟩ := (HPL.out _ _ hh).prs.at hka
          exact ⟨ad, e, h2⟩
        have b0 : (0 : Int) ≤ (ka : Int) := by omega
        have b1 : (ka : Int) < (l.length : Int) := by omega
        have b9 : (l.length : Int) ≤ 80 := by have := HL80.out; omega
        obtain ⟨ad, hAp, -⟩ := HPX.out _ _ HQ3.out
        subst hAp
        have HKX : Hid (∀ K W, Hold w K W → W.cell? ⟨(ad.add (ka * 3)).block, (ad.add (ka * 3)).off + 1, none⟩ = some (.slice l[ka].A l[ka].par.ring.length l[ka].cap)) := fun K W hh => by
          obtain ⟨ad', e, h2⟩ := HPX.out _ _ hh
          obtain rfl := Option.some.inj e
          exact h2
        have HPQ := Lib.hid (fun W (hb : Below (W4.alloc (.cells #[.slice D1 (putE o path).length d1, .slice Dp lq.length dp] 26 (0, 0))).heap.size (W4.alloc (.cells #[.slice D1 (putE o path).length d1, .slice Dp lq.length dp] 26 (0, 0))) W) => hp4.on hb)
        have HCK := Lib.hid (fun W (hb : Below (W4.alloc (.cells #[.slice D1 (putE o path).length d1, .slice Dp lq.length dp] 26 (0, 0))).heap.size (W4.alloc (.cells #[.slice D1 (putE o path).length d1, .slice Dp lq.length dp] 26 (0, 0))) W) => (by
          have hx := ref_chk (putE o path) D1 d1 lq Dp dp (by omega) (by omega) hw2 W (hp4.on hb).prs (hp4.on hb).out
          rw [chkQ_of, hml, (sp_zero hz).2.2.2] at hx
          exact hx : Calls Tryz.prog 22 #[.agg #[.slice D1 (putE o path).length d1, .slice Dp lq.length dp]] W fun e' w' => e' = .returned (.bool true) ∧ Below W.heap.size W w'))
        have HOQ := Lib.hid (fun W (hb : Below (W4.alloc (.cells #[.slice D1 (putE o path).length d1, .slice Dp lq.length dp] 26 (0, 0))).heap.size (W4.alloc (.cells #[.slice D1 (putE o path).length d1, .slice Dp lq.length dp] 26 (0, 0))) W) => ref_area_good (putE o path) D1 d1 (normP_small hQ.out).1 W (hp4.on hb).out)
        rw [hsa.2] at HOQ
        clear hB hpl hl2 ho2 hw2 hP hQ hid hp4 hz hml r1 r2 r3 HSP HFW hkid hrx hsa HPX
        generalize (putE o path).length = n1 at *
        generalize hxr : l[ka].par.ring = xr at *
        generalize l[ka].A = xA at *
        generalize l[ka].cap = xc at *
        generalize har : area xr = ar at *
        have HKS : Hid (∀ K W, Hold w K W → (g4, #[.slice Ao o.length co, .slice (some ad) l.length cp], 26) ∈ K → (W.cell? ⟨g4, 0, none⟩ = some (.slice Ao o.length co) ∧ W.cell? ⟨g4, 1, none⟩ = some (.slice (some ad) l.length cp)) ∧ W.cell? ⟨(ad.add (ka * 3)).block, (ad.add (ka * 3)).off + 1, none⟩ = some (.slice xA xr.length xc)) := fun K W hh hm => ⟨hh.pt hm, HKX.out K W hh⟩
        clear c0 c1
        go_upto_region 6 with (fail)
        generalize (World.alloc _ _) = W5 at hq4 HPQ HCK HOQ ⊢
        generalize W4.heap.size = g9 at hq4 ⊢
        have HQX := Lib.hid hq4
        clear hq4
        have HE4 := Lib.hid (fun K W (hh : Hold W5 K W) => HQX.out.on hh.1)
        have HAT5 := Lib.hid (fun K W (hh : Hold W5 K W) => HAT.out _ _ (HE4.out K W hh))
        have HAR5 := Lib.hid (fun K W (hh : Hold W5 K W) => HAR.out _ _ (HE4.out K W hh))
        have HKS5 : Hid (∀ K W, Hold W5 K W → (W.cell? ⟨g4, 0, none⟩ = some (.slice Ao o.length co) ∧ W.cell? ⟨g4, 1, none⟩ = some (.slice (some ad) l.length cp)) ∧ W.cell? ⟨(ad.add (ka * 3)).block, (ad.add (ka * 3)).off + 1, none⟩ = some (.slice xA xr.length xc)) := fun K W hh => HKS.out _ _ (HE4.out K W hh) (by simp)
        have HZ5 := Lib.hid (Hold.refl W5)
        have HPT := Lib.hid (fun (n : Int) r own (hm : (⟨n, r, own⟩ : Par) ∈ l.map PV.par) => part_there (HPL.out _ _ (HE4.out _ _ HZ5.out)) (by have := HL80.out; omega) HP.out hm)
        have HOP5 := Lib.hid (fun K W (hh : Hold W5 K W) => HOP.out _ _ (HE4.out K W hh))
        have HNP := Lib.hid (fun (z : Par) (hz : z ∈ l.map PV.par) => (normP_small (HP.out.each _ hz)).1)
        clear HAT HAR HKS HPL HOP HKX HP
        go_cut [11] (fun s wx => ∃ g11, s = .pointer (some ⟨g11, 0, none⟩) ∧ Hold W5 [(g11, #[.int .i64 (hiOf ar), .int .u64 (loOf ar)], 36)] wx)
        case first =>
          have hH := HZ5.out.drew
          refine wp_region_held_drew (S := fun W => (W.cell? ⟨g4, 0, none⟩ = some (.slice Ao o.length co) ∧ W.cell? ⟨g4, 1, none⟩ = some (.slice (some ad) l.length cp)) ∧ W.cell? ⟨(ad.add (ka * 3)).block, (ad.add (ka * 3)).off + 1, none⟩ = some (.slice xA xr.length xc)) (by kernel_rfl) ?_ (fun hHeld => ?_)
          · (try dsimp only)
            exact HKS5.out _ _ hH
          refine takeS (i := 0) (v := ?_) (by decide +kernel) rfl (by rfl) (fun _ _ _ h => h) (by assumption) ?_ ?_; rotate_left; focus (intro w0 hSw; (try dsimp only at hSw); go_simp; (try (with_reducible rfl)); done); (try simp only [Act.put, jA, jB, jD, jE, jF])
          refine takeS (i := 1) (v := ?_) (by decide +kernel) rfl (by rfl) (fun _ _ _ h => h) (by assumption) ?_ ?_; rotate_left; focus (intro w0 hSw; (try dsimp only at hSw); go_simp; (try (with_reducible rfl)); done); (try simp only [Act.put, jA, jB, jC, jD, jE, jF])
          refine takeS (i := 2) (v := ?_) (by decide +kernel) rfl (by rfl) (fun _ _ _ h => h) (by assumption) ?_ ?_; rotate_left; focus (intro w0 hSw; (try dsimp only at hSw); go_simp; (try (with_reducible rfl)); done); (try simp only [Act.put, jA, jB, jC, jD, jE, jF])
          refine takeS (i := 3) (v := ?_) (by decide +kernel) rfl (by rfl) (fun _ _ _ h => h) (by assumption) ?_ ?_; rotate_left; focus (intro w0 hSw; (try dsimp only at hSw); go_simp; (try (with_reducible rfl)); done); (try simp only [Act.put, jA, jB, jC, jD, jE, jF])
          refine wpAnyH_ready (rs := [4, 12]) (by decide +kernel) (by simp) ?_
          refine AllReadyH.cons rfl (fun K hK => ?_) (AllReadyH.cons rfl (fun K hK => ?_) AllReadyH.nil)
          · (try simp only [jA, jB, jC])
            go_simp
            go_at_call 20
            refine (HAT5.out _ _ hH).mono ?_
            rintro e' W5 ⟨rfl, hB5⟩
            have h5 := hH.on hB5
            refine hK.out _ _ ?_ (fun hHeld => ?_)
            focus ((try dsimp only); exact HKS5.out _ _ h5; done)
            clear hK K
            (try simp only [Act.put, jA, jB, jC, jD, jE, jF])
            refine takeS (i := 5) (v := ?_) (by decide +kernel) rfl (by rfl) (fun _ _ _ h => h) (by assumption) ?_ ?_; rotate_left; focus (intro w0 hSw; (try dsimp only at hSw); go_simp; (try (with_reducible rfl)); done); (try simp only [Act.put, jA, jB, jC, jD, jE, jF])
            refine takeS (i := 6) (v := ?_) (by decide +kernel) rfl (by rfl) (fun _ _ _ h => h) (by assumption) ?_ ?_; rotate_left; focus (intro w0 hSw; (try dsimp only at hSw); go_simp; (try (with_reducible rfl)); done); (try simp only [Act.put, jA, jB, jC, jD, jE, jF])
            refine takeS (i := 7) (v := ?_) (by decide +kernel) rfl (by rfl) (fun _ _ _ h => h) (by assumption) ?_ ?_; rotate_left; focus (intro w0 hSw; (try dsimp only at hSw); go_simp; (try (with_reducible rfl)); done); (try simp only [Act.put, jA, jB, jC, jD, jE, jF])
            refine wpAnyH_ready (rs := [8, 12]) (by decide +kernel) (by simp) ?_
            refine AllReadyH.cons rfl (fun K hK => ?_) (AllReadyH.cons rfl (fun K hK => ?_) AllReadyH.nil)
            · (try simp only [jA, jB, jC])
              go_simp
              go_at_call 19
              refine (HAR5.out _ _ h5).mono ?_
              rintro e' W6 ⟨rfl, hB6⟩
              have h6 := h5.on hB6
              refine hK.out _ _ ?_ (fun hHeld => ?_)
              focus ((try dsimp only); exact HKS5.out _ _ h6; done)
              clear hK K
              (try simp only [Act.put, jA, jB, jC, jD, jE, jF])
              refine takeS (i := 9) (v := ?_) (by decide +kernel) rfl (by rfl) (fun _ _ _ h => h) (by assumption) ?_ ?_; rotate_left; focus (intro w0 hSw; (try dsimp only at hSw); go_simp; (try (with_reducible rfl)); done); (try simp only [Act.put, jA, jB, jC, jD, jE, jF])
              refine takeS (i := 10) (v := ?_) (by decide +kernel) rfl (by rfl) (fun _ _ _ h => h) (by assumption) ?_ ?_; rotate_left; focus (intro w0 hSw; (try dsimp only at hSw); go_simp; (try (with_reducible rfl)); done); (try simp only [Act.put, jA, jB, jC, jD, jE, jF])
              refine takeS (i := 11) (v := ?_) (by decide +kernel) rfl (by rfl) (fun _ _ _ h => h) (by assumption) ?_ ?_; rotate_left; focus (intro w0 hSw; (try dsimp only at hSw); go_simp; (try (with_reducible rfl)); done); (try simp only [Act.put, jA, jB, jC, jD, jE, jF])
              refine wpAnyH_ready (rs := [12]) (by decide +kernel) (by simp) ?_
              refine AllReadyH.cons rfl (fun K hK => ?_) AllReadyH.nil
              (try simp only [jA, jB, jC])
              go_simp
              refine hK.out _ _ ?_ (fun hHeld => ?_)
              focus ((try dsimp only); exact HKS5.out _ _ (h6.new #[.int .i64 0, .int .u64 0] 36); done)
              clear hK K
              (try simp only [Act.put, jA, jB, jC, jD, jE, jF])
              have h12 := h6.new #[.int .i64 (hiOf ar), .int .u64 (loOf ar)] 36
              refine wpAnyH_ready (rs := [13]) (by decide +kernel) (by simp) ?_
              refine AllReadyH.cons rfl (fun K hK => ?_) AllReadyH.nil
              (try simp only [jA, jB, jC])
              go_simp
              refine hK.out _ _ ?_ (fun hHeld => ?_)
              focus ((try dsimp only); exact HKS5.out _ _ h12; done)
              clear hK K
              (try simp only [Act.put, jA, jB, jC, jD, jE, jF])
              refine takeS (i := 14) (v := ?_) (by decide +kernel) rfl (by rfl) (fun _ _ _ h => h) (by assumption) ?_ ?_; rotate_left; focus (intro w0 hSw; (try dsimp only at hSw); go_simp; (try (with_reducible rfl)); done); (try simp only [Act.put, jA, jB, jC, jD, jE, jF])
              refine wpAnyH_done (by decide +kernel) ?_ _
              go_wp2_with fail
              go_meet
              exact ⟨_, rfl, h12⟩
            · (try simp only [jA, jB, jC])
              go_simp
              refine hK.out _ _ ?_ (fun hHeld => ?_)
              focus ((try dsimp only); exact HKS5.out _ _ (h5.new #[.int .i64 0, .int .u64 0] 36); done)
              clear hK K
              (try simp only [Act.put, jA, jB, jC, jD, jE, jF])
              have h7 := h5.new #[.int .i64 0, .int .u64 0] 36
              refine wpAnyH_ready (rs := [8]) (by decide +kernel) (by simp) ?_
              refine AllReadyH.cons rfl (fun K hK => ?_) AllReadyH.nil
              (try simp only [jA, jB, jC])
              go_simp
              go_at_call 19
              refine (HAR5.out _ _ h7).mono ?_
              rintro e' W6 ⟨rfl, hB6⟩
              have h6 := h7.on hB6
              refine hK.out _ _ ?_ (fun hHeld => ?_)
              focus ((try dsimp only); exact HKS5.out _ _ h6; done)
              clear hK K
              (try simp only [Act.put, jA, jB, jC, jD, jE, jF])
              refine takeS (i := 9) (v := ?_) (by decide +kernel) rfl (by rfl) (fun _ _ _ h => h) (by assumption) ?_ ?_; rotate_left; focus (intro w0 hSw; (try dsimp only at hSw); go_simp; (try (with_reducible rfl)); done); (try simp only [Act.put, jA, jB, jC, jD, jE, jF])
              refine takeS (i := 10) (v := ?_) (by decide +kernel) rfl (by rfl) (fun _ _ _ h => h) (by assumption) ?_ ?_; rotate_left; focus (intro w0 hSw; (try dsimp only at hSw); go_simp; (try (with_reducible rfl)); done); (try simp only [Act.put, jA, jB, jC, jD, jE, jF])
              refine takeS (i := 11) (v := ?_) (by decide +kernel) rfl (by rfl) (fun _ _ _ h => h) (by assumption) ?_ ?_; rotate_left; focus (intro w0 hSw; (try dsimp only at hSw); go_simp; (try (with_reducible rfl)); done); (try simp only [Act.put, jA, jB, jC, jD, jE, jF])
              obtain ⟨u0, u1⟩ := h6.pt (.head _)
              obtain ⟨f0, f1⟩ := h6.fz (.head _)
              have h12 := h6.set2 (.int .i64 (hiOf ar)) (.int .u64 (loOf ar))
              refine wpAnyH_ready (rs := [13]) (by decide +kernel) (by simp) ?_
              refine AllReadyH.cons rfl (fun K hK => ?_) AllReadyH.nil
              (try simp only [jA, jB, jC])
              go_simp
              refine hK.out _ _ ?_ (fun hHeld => ?_)
              focus ((try dsimp only); exact HKS5.out _ _ h12; done)
              clear hK K
              (try simp only [Act.put, jA, jB, jC, jD, jE, jF])
              refine takeS (i := 14) (v := ?_) (by decide +kernel) rfl (by rfl) (fun _ _ _ h => h) (by assumption) ?_ ?_; rotate_left; focus (intro w0 hSw; (try dsimp only at hSw); go_simp; (try (with_reducible rfl)); done); (try simp only [Act.put, jA, jB, jC, jD, jE, jF])
              refine wpAnyH_done (by decide +kernel) ?_ _
              go_wp2_with fail
              go_meet
              exact ⟨_, rfl, h12⟩
          · (try simp only [jA, jB, jC])
            go_simp
            refine hK.out _ _ ?_ (fun hHeld => ?_)
            focus ((try dsimp only); exact HKS5.out _ _ (HZ5.out.new #[.int .i64 0, .int .u64 0] 36).drew; done)
            clear hK K
            (try simp only [Act.put, jA, jB, jC, jD, jE, jF])
            have h7 := (HZ5.out.new #[.int .i64 0, .int .u64 0] 36).drew
            refine wpAnyH_ready (rs := [4]) (by decide +kernel) (by simp) ?_
            refine AllReadyH.cons rfl (fun K hK => ?_) AllReadyH.nil
            (try simp only [jA, jB, jC])
            go_simp
            go_at_call 20
            refine (HAT5.out _ _ h7).mono ?_
            rintro e' W5 ⟨rfl, hB5⟩
            have h5 := h7.on hB5
            refine hK.out _ _ ?_ (fun hHeld => ?_)
            focus ((try dsimp only); exact HKS5.out _ _ h5; done)
            clear hK K
            (try simp only [Act.put, jA, jB, jC, jD, jE, jF])
            refine takeS (i := 5) (v := ?_) (by decide +kernel) rfl (by rfl) (fun _ _ _ h => h) (by assumption) ?_ ?_; rotate_left; focus (intro w0 hSw; (try dsimp only at hSw); go_simp; (try (with_reducible rfl)); done); (try simp only [Act.put, jA, jB, jC, jD, jE, jF])
            refine takeS (i := 6) (v := ?_) (by decide +kernel) rfl (by rfl) (fun _ _ _ h => h) (by assumption) ?_ ?_; rotate_left; focus (intro w0 hSw; (try dsimp only at hSw); go_simp; (try (with_reducible rfl)); done); (try simp only [Act.put, jA, jB, jC, jD, jE, jF])
            refine takeS (i := 7) (v := ?_) (by decide +kernel) rfl (by rfl) (fun _ _ _ h => h) (by assumption) ?_ ?_; rotate_left; focus (intro w0 hSw; (try dsimp only at hSw); go_simp; (try (with_reducible rfl)); done); (try simp only [Act.put, jA, jB, jC, jD, jE, jF])
            refine wpAnyH_ready (rs := [8]) (by decide +kernel) (by simp) ?_
            refine AllReadyH.cons rfl (fun K hK => ?_) AllReadyH.nil
            (try simp only [jA, jB, jC])
            go_simp
            go_at_call 19
            refine (HAR5.out _ _ h5).mono ?_
            rintro e' W6 ⟨rfl, hB6⟩
            have h6 := h5.on hB6
            refine hK.out _ _ ?_ (fun hHeld => ?_)
            focus ((try dsimp only); exact HKS5.out _ _ h6; done)
            clear hK K
            (try simp only [Act.put, jA, jB, jC, jD, jE, jF])
            refine takeS (i := 9) (v := ?_) (by decide +kernel) rfl (by rfl) (fun _ _ _ h => h) (by assumption) ?_ ?_; rotate_left; focus (intro w0 hSw; (try dsimp only at hSw); go_simp; (try (with_reducible rfl)); done); (try simp only [Act.put, jA, jB, jC, jD, jE, jF])
            refine takeS (i := 10) (v := ?_) (by decide +kernel) rfl (by rfl) (fun _ _ _ h => h) (by assumption) ?_ ?_; rotate_left; focus (intro w0 hSw; (try dsimp only at hSw); go_simp; (try (with_reducible rfl)); done); (try simp only [Act.put, jA, jB, jC, jD, jE, jF])
            refine takeS (i := 11) (v := ?_) (by decide +kernel) rfl (by rfl) (fun _ _ _ h => h) (by assumption) ?_ ?_; rotate_left; focus (intro w0 hSw; (try dsimp only at hSw); go_simp; (try (with_reducible rfl)); done); (try simp only [Act.put, jA, jB, jC, jD, jE, jF])
            obtain ⟨u0, u1⟩ := h6.pt (.head _)
            obtain ⟨f0, f1⟩ := h6.fz (.head _)
            have h12 := h6.set2 (.int .i64 (hiOf ar)) (.int .u64 (loOf ar))
            refine wpAnyH_ready (rs := [13]) (by decide +kernel) (by simp) ?_
            refine AllReadyH.cons rfl (fun K hK => ?_) AllReadyH.nil
            (try simp only [jA, jB, jC])
            go_simp
            refine hK.out _ _ ?_ (fun hHeld => ?_)
            focus ((try dsimp only); exact HKS5.out _ _ h12; done)
            clear hK K
            (try simp only [Act.put, jA, jB, jC, jD, jE, jF])
            refine takeS (i := 14) (v := ?_) (by decide +kernel) rfl (by rfl) (fun _ _ _ h => h) (by assumption) ?_ ?_; rotate_left; focus (intro w0 hSw; (try dsimp only at hSw); go_simp; (try (with_reducible rfl)); done); (try simp only [Act.put, jA, jB, jC, jD, jE, jF])
            refine wpAnyH_done (by decide +kernel) ?_ _
            go_wp2_with fail
            go_meet
            exact ⟨_, rfl, h12⟩
        case rest =>
          obtain ⟨g11, rfl, h11⟩ := hcut
          generalize hWc : wc = W6 at *
          clear hWc HAT5 HAR5 HKS5
          have h13 := h11.new #[.int .i64 0, .int .u64 0] 36
          go_upto_region 8 with (fail)
          generalize (World.alloc _ _) = W7 at h13 ⊢
          generalize W6.heap.size = g13 at h13 ⊢
          have e1 : hiOf (sumL (cutF id fresh) ((lq.map PV.par).take 0)) = 0 := by rw [List.take_zero]; show hiOf 0 = 0; decide
          have e2 : loOf (sumL (cutF id fresh) ((lq.map PV.par).take 0)) = 0 := by rw [List.take_zero]; show loOf 0 = 0; decide
          have h13' : Hold W5 [(g13, #[.int .i64 (hiOf (sumL (cutF id fresh) ((lq.map PV.par).take 0))), .int .u64 (loOf (sumL (cutF id fresh) ((lq.map PV.par).take 0)))], 36), (g11, #[.int .i64 (hiOf ar), .int .u64 (loOf ar)], 36)] W7 := by rw [e1, e2]; exact h13
          clear e1 e2 h13 h11
          go_wp2_with fail
          go_loopg [14] lq.length (fun g i wr => ∃ k : Nat, k ≤ lq.length ∧ g = lq.length - k ∧ i = .int .i64 k ∧ Hold W5 [(g13, #[.int .i64 (hiOf (sumL (cutF id fresh) ((lq.map PV.par).take k))), .int .u64 (loOf (sumL (cutF id fresh) ((lq.map PV.par).take k)))], 36), (g11, #[.int .i64 (hiOf ar), .int .u64 (loOf ar)], 36)] wr)
          case atStart => exact ⟨0, Nat.zero_le _, rfl, rfl, h13'⟩
          case round =>
            clear h13'
            obtain ⟨k, hk, hgk, rfl, HB⟩ := hrel
            have HGK := Lib.hid hgk
            clear hgk
            obtain ⟨p0, p1⟩ := (HE4.out _ _ HB).pt (.head _)
            obtain ⟨q0, q1⟩ := (HE4.out _ _ HB).pt (.tail _ (.head _))
            by_cases hlt : k < lq.length
            · obtain ⟨ad9, hA9, -⟩ := (HPQ.out _ HB.1).prs.at hlt
              have HDY := Lib.hid (fun K W (hh : Hold W5 K W) => Prs.cells hA9 (HPQ.out W hh.1).prs (List.getElem?_eq_getElem hlt) (Below.refl _ W))
              have HNY := Lib.hid (HNQ.out _ (List.getElem_mem hlt))
              have HRY := Lib.hid (fun K W (hh : Hold W5 K W) => ref_area_good lq[k].par.ring lq[k].A lq[k].cap (normP_small HNY.out).1 W ((HPQ.out W hh.1).prs.2 _ (List.getElem_mem hlt)).1)
              have HEY := Lib.hid (HEA.out _ (List.getElem_mem hlt))
              have HST : Hid (sumL (cutF id fresh) ((lq.map PV.par).take (k + 1)) = sumL (cutF id fresh) ((lq.map PV.par).take k) + (if lq[k].par.id = id ∨ lq[k].par.id = fresh then area lq[k].par.ring else 0)) := by
                unfold Hid
                rw [List.take_succ_eq_append_getElem (by rw [List.length_map]; exact hlt), sumL_append, List.getElem_map]
                simp [sumL, cutF]
              have HLS : Hid (InR (sumL (cutF id fresh) ((lq.map PV.par).take k)) ∧ InR (area lq[k].par.ring) ∧ InR (sumL (cutF id fresh) ((lq.map PV.par).take k) + area lq[k].par.ring)) := by
                have h1 := cutF_lim id fresh (ps := lq.map PV.par) (fun y hy => by
                  obtain ⟨z, hz, e⟩ := List.mem_map.1 hy
                  rw [← e]; exact HNQ.out z hz) k (by rw [List.length_map]; omega)
                have h2 := area_lim HNY.out.1
                have h3 := HZL.out
                unfold Hid InR
                generalize sumL (cutF id fresh) ((lq.map PV.par).take k) = s at *
                generalize area lq[k].par.ring = ay at *
                omega
              have b2 : (0 : Int) ≤ (k : Int) := by omega
              have b3 : (k : Int) < (lq.length : Int) := by omega
              have b4 : (lq.length : Int) ≤ 64 := by have := HZL.out; omega
              subst hA9
              obtain ⟨y0, y1, y2⟩ := HDY.out _ _ HB
              clear HNY HDY
              generalize lq[k].par.ring = yr at *
              generalize lq[k].par.id = yi at *
              generalize lq[k].par.own = yo at *
              generalize lq[k].A = yA at *
              generalize lq[k].cap = yc at *
              generalize hay : area yr = ay at *
              generalize hsk : sumL (cutF id fresh) ((lq.map PV.par).take k) = sk at *
              go_upto_region 12 with (fail)
              have h15 := HB.new #[.int .i64 yi, .slice yA yr.length yc, .string yo] 40
              clear p0 p1 q0 q1 y0 y1 y2 HB
              generalize (World.alloc _ _) = W8 at h15 ⊢
              generalize wr.heap.size = g15 at h15 ⊢
              have z1 := h15.cell (.head _) 1
              have HQ15 := Lib.hid h15
              clear h15
              go_wp2_with fail
              go_at_call 19
              refine (HRY.out _ _ HQ15.out).mono ?_
              rintro e' W9 ⟨rfl, hB⟩
              have h16 := (HQ15.out.on hB).new #[.int .i64 (hiOf ay), .int .u64 (loOf ay)] 36
              clear z1 HRY hB
              go_upto_region 13 with (fail)
              generalize (World.alloc _ _) = W10 at h16 ⊢
              generalize W9.heap.size = g16 at h16 ⊢
              have HQ16 := Lib.hid h16
              have z0 := h16.cell (.tail _ (.head _)) 0
              have z2 := h16.cell (.tail _ (.head _)) 2
              obtain ⟨z3, z4⟩ := h16.pt (.head _)
              obtain ⟨z5, z6⟩ := h16.pt (.tail _ (.tail _ (.head _)))
              obtain ⟨q0, q1⟩ := (HE4.out _ _ h16).pt (.tail _ (.head _))
              clear h16
              by_cases hy1 : yi = id ∨ yi = fresh
              · have HRM := rim_add HLS.out.1 HLS.out.2.1 HLS.out.2.2
                rw [if_pos hy1] at HST
                clear HEY HLS
                have hy2 : yi = id ∨ (¬ yi = id ∧ yi = fresh) := by
                  by_cases h : yi = id
                  · exact .inl h
                  · exact .inr ⟨h, hy1.resolve_left h⟩
                clear hy1
                rcases hy2 with hy2 | ⟨hy3, hy2⟩
                · have e1 : (yi == id) = true := by simpa using hy2
                  clear hy2
                  go_wp2_with fail
                  go_at_call 21
                  refine (HRM.out _).mono ?_
                  rintro e' W11 ⟨rfl, hB⟩
                  have h18 := HQ16.out.on hB
                  clear z0 z2 z3 z4 z5 z6 q0 q1 hB
                  have h19 := h18.tail.tail
                  obtain ⟨z5, z6⟩ := h19.pt (.head _)
                  obtain ⟨f0, f1⟩ := h19.fz (.head _)
                  have HS19 := Lib.hid (h19.set2 (.int .i64 (hiOf (sk + ay))) (.int .u64 (loOf (sk + ay))))
                  clear h18 h19
                  go_wp2
                  go_roundg (lq.length - (k + 1))
                  case measure => have := HGK.out; omega
                  case rel => exact ⟨k + 1, by omega, rfl, by go_num, by rw [HST.out]; exact HS19.out⟩
                · have e1 : (yi == id) = false := by simpa using hy3
                  have e2 : (yi == fresh) = true := by simpa using hy2
                  clear hy2
                  go_wp2_with fail
                  go_at_call 21
                  refine (HRM.out _).mono ?_
                  rintro e' W11 ⟨rfl, hB⟩
                  have h18 := HQ16.out.on hB
                  clear z0 z2 z3 z4 z5 z6 q0 q1 hB
                  have h19 := h18.tail.tail
                  obtain ⟨z5, z6⟩ := h19.pt (.head _)
                  obtain ⟨f0, f1⟩ := h19.fz (.head _)
                  have HS19 := Lib.hid (h19.set2 (.int .i64 (hiOf (sk + ay))) (.int .u64 (loOf (sk + ay))))
                  clear h18 h19
                  go_wp2
                  go_roundg (lq.length - (k + 1))
                  case measure => have := HGK.out; omega
                  case rel => exact ⟨k + 1, by omega, rfl, by go_num, by rw [HST.out]; exact HS19.out⟩
              · have hy3 : ¬ yi = id := fun e => hy1 (.inl e)
                have hy4 : ¬ yi = fresh := fun e => hy1 (.inr e)
                rw [if_neg hy1, Int.add_zero] at HST
                obtain ⟨zid, zr, zo, hzm, hz1, hz2, hz3⟩ : ∃ zid zr zo, (⟨zid, zr, zo⟩ : Par) ∈ l.map PV.par ∧ zid = yi ∧ zo = yo ∧ ay = area zr := by
                  rcases HEY.out with h | h | ⟨-, -, z, hz, h1, h2, -, h3⟩
                  · exact absurd h hy3
                  · exact absurd h hy4
                  · exact ⟨z.id, z.ring, z.own, hz, h1, h2, h3⟩
                subst hz1
                subst hz2
                obtain ⟨kz, adz, X, xz, hkz, hAz, HT⟩ := HPT.out _ _ _ hzm
                obtain rfl := Option.some.inj hAz
                have HNZ := HNP.out _ hzm
                have HRZ := Lib.hid (fun W (hb : Below W5.heap.size W5 W) => by
                  have hx := ref_area_good zr X xz HNZ W (HT W hb).2.1
                  rw [← hz3] at hx
                  exact hx)
                have HT := Lib.hid HT
                have b5 : (0 : Int) ≤ (kz : Int) := by omega
                have b6 : (kz : Int) < (l.length : Int) := by omega
                have e1 : (zid == id) = false := by simpa using hy3
                have e2 : (zid == fresh) = false := by simpa using hy4
                clear hAz hkz HNZ hzm hz3 hy1 HEY HLS
                go_wp2_with fail
                go_at_call 20
                refine (HT.out _ HQ16.out.1).2.2.mono ?_
                rintro e' W11 ⟨rfl, hB⟩
                have h18 := HQ16.out.on hB
                clear z0 z2 z3 z4 z5 z6 q0 q1 hB
                have z2 := h18.cell (.tail _ (.head _)) 2
                obtain ⟨q0, q1⟩ := (HE4.out _ _ h18).pt (.tail _ (.head _))
                obtain ⟨t1, t2⟩ := (HT.out _ h18.1).1
                have HQ18 := Lib.hid h18
                clear h18
                have hd : decide ((kz : Int) < 0) = false := decide_eq_false (by omega)
                go_upto_region 16 with (fail)
                go_quiet (fail)
                have hb := HQ18.out.drewN nq
                clear z2 q0 q1 t1 t2
                obtain ⟨q0, q1⟩ := (HE4.out _ _ hb).pt (.tail _ (.head _))
                obtain ⟨t1, t2⟩ := (HT.out _ hb.1).1
                have HQ19 := Lib.hid hb
                clear hb
                go_wp2_with fail
                go_at_call 19
                refine (HRZ.out _ HQ19.out.1).mono ?_
                rintro e' W12 ⟨rfl, hB⟩
                have h20 := (HQ19.out.on hB).new #[.int .i64 (hiOf ay), .int .u64 (loOf ay)] 36
                clear q0 q1 t1 t2 hB
                go_upto_region 19 with (fail)
                generalize (World.alloc _ _) = W13 at h20 ⊢
                generalize W12.heap.size = g19 at h20 ⊢
                obtain ⟨z3, z4⟩ := h20.pt (.tail _ (.head _))
                obtain ⟨z5, z6⟩ := h20.pt (.head _)
                have HQ20 := Lib.hid h20.tail.tail.tail
                clear h20
                go_wp2
                go_roundg (lq.length - (k + 1))
                case measure => have := HGK.out; omega
                case rel => exact ⟨k + 1, by omega, rfl, by go_num, by rw [HST.out]; exact HQ20.out⟩
            · obtain rfl : k = lq.length := by omega
              have HSUM : Hid (sumL (cutF id fresh) ((lq.map PV.par).take (lq.length)) = ar) := by
                unfold Hid
                rw [← HSA.out.1, ← HMQ.out]
                have : (lq.map PV.par).take lq.length = lq.map PV.par := List.take_of_length_le (by rw [List.length_map]; exact Nat.le_refl _)
                rw [this]; rfl
              rw [HSUM.out] at HB
              have HK := Lib.hid HB
              clear HB
              have b0' : ¬ ((lq.length : Int) < (lq.length : Int)) := by omega
              have hl1 : (lq.length : Int) = (l.length : Int) + 1 := by have := HLQ.out; omega
              go_wp2_with fail
              go_at_call 19
              refine (HOP5.out _ _ HK.out).mono ?_
              rintro e' W8 ⟨rfl, hB⟩
              have h21 := (HK.out.on hB).new #[.int .i64 (hiOf (area o)), .int .u64 (loOf (area o))] 36
              clear p0 p1 q0 q1 hB HOP5
              obtain ⟨p0, p1⟩ := (HE4.out _ _ h21).pt (.head _)
              go_upto_region 22 with (fail)
              generalize (World.alloc _ _) = W9 at h21 p0 p1 ⊢
              generalize W8.heap.size = g21 at h21 ⊢
              have HQ21 := Lib.hid h21
              clear h21
              go_wp2_with fail
              go_at_call 19
              refine (HOQ.out _ HQ21.out.1).mono ?_
              rintro e' W10 ⟨rfl, hB⟩
              have h23 := (HQ21.out.on hB).new #[.int .i64 (hiOf (area o)), .int .u64 (loOf (area o))] 36
              clear p0 p1 hB HOQ
              obtain ⟨p0, p1⟩ := (HE4.out _ _ h23).pt (.head _)
              go_upto_region 23 with (fail)
              generalize (World.alloc _ _) = W11 at h23 p0 p1 ⊢
              generalize W10.heap.size = g23 at h23 ⊢
              have HQ23 := Lib.hid h23
              clear h23
              go_wp2_with fail
              go_at_call 22
              refine (HCK.out _ HQ23.out.1).mono ?_
              rintro e' W12 ⟨rfl, hB⟩
              have h24 := HQ23.out.on hB
              clear p0 p1 hB
              obtain ⟨p0, p1⟩ := (HE4.out _ _ h24).pt (.head _)
              obtain ⟨q0, q1⟩ := (HE4.out _ _ h24).pt (.tail _ (.head _))
              obtain ⟨t0, t1⟩ := h24.pt (.head _)
              obtain ⟨t2, t3⟩ := h24.pt (.tail _ (.head _))
              obtain ⟨t4, t5⟩ := h24.pt (.tail _ (.tail _ (.head _)))
              obtain ⟨t6, t7⟩ := h24.pt (.tail _ (.tail _ (.tail _ (.head _))))
              have HEND := Lib.hid (HE4.out _ _ h24).1
              clear h24
              go_wp2
              go_ret
              exact ⟨rfl, HEND.out⟩
end Go.Proofs.YtmjgbjebiiecmaaGreat
