/- The walk of CutKeeps. -/
import Derived.Test.YtplbfiglkllljaaGreatCutOnce
import Derived.Test.YtplbfiglkllljaaGreatRefSame
namespace Go.Proofs.YtplbfiglkllljaaGreat
open Go.RowKit

theorem Hold.other {w W : World} {L : List (Nat × Array Value × TypeId)} {g : Nat} (h : Hold w L W) (hg : w.heap.size ≤ g) (hne : ∀ e ∈ L, e.1 ≠ g) (i : Nat) (x : Value) : Hold w L (W.setCell ⟨g, i, none⟩ x) :=
  ⟨h.1.setCell (p := ⟨g, i, none⟩) hg x, fun e he => ⟨(Below.heap_setCell _ _ _ e.1 (hne e he)).trans (h.2.1 e he).1, (h.2.1 e he).2⟩, h.2.2⟩
/-- A slice of so many points of the call's own, whatever they are. -/
def Shp (B : Nat) (A : Option Addr) (n c : Nat) (W : World) : Prop := ∃ ps : List (Int × Int), ps.length = n ∧ W.ownsRow B 44 2 (.slice A n c) n (flatP ps)
/-- The plan that came, whatever its rings hold by now. -/
structure Kp (w5 : World) (D1 : Option Addr) (n1 d1 : Nat) (Dp : Option Addr) (m dp : Nat) (lq : List PV) (g11 : Nat) (W : World) : Prop where
  hold : Hold w5 [(g11, #[.slice D1 n1 d1, .slice Dp m dp], 26)] W
  row : RowI w5 40 3 encV (.slice Dp m dp) lq W
  rs : ∀ x ∈ lq, Shp w5.heap.size x.A x.par.ring.length x.cap W
  out : Shp w5.heap.size D1 n1 d1 W
section
variable {w5 W W' : World} {D1 Dp : Option Addr} {n1 d1 m dp g11 : Nat} {lq : List PV}
theorem Shp.on {B : Nat} {A : Option Addr} {n c : Nat} (h : Shp B A n c W) (hb : Below W.heap.size W W') : Shp B A n c W' := by
  obtain ⟨ps, h1, h2⟩ := h
  exact ⟨ps, h1, row_on h2 hb⟩
theorem Shp.set {B : Nat} {A : Option Addr} {n c g : Nat} (h : Shp B A n c W) (k : Nat) (q : Int × Int) : Shp B A n c ((W.setCell ⟨g, k * 2, none⟩ (.int .i64 q.1)).setCell ⟨g, k * 2 + 1, none⟩ (.int .i64 q.2)) := by
  obtain ⟨ps, h1, h2⟩ := h
  by_cases hg : (Value.slice A n c).ownBlock = some g
  · obtain ⟨hl, ⟨hv, -⟩ | ⟨g', cap, cur, hv, hb, hh, hn, hc, hs, ht⟩⟩ := h2
    · rw [hv] at hg; cases hg
    · obtain ⟨rfl, -, rfl⟩ := Value.slice.inj hv
      obtain rfl : g' = g := Option.some.inj hg
      refine ⟨ps.set k q, by rw [List.length_set, h1], ?_, .inr ⟨g', c, (cur.setIfInBounds (k * 2) (.int .i64 q.1)).setIfInBounds (k * 2 + 1) (.int .i64 q.2), rfl, hb, ?_, hn, hc, ?_, ?_⟩⟩
      · rw [flatP_length, List.length_set, h1]
      · simp [World.setCell, Array.getElem?_modify, hh]
      · simp [hs]
      · rw [flatP_set, ← ht]
        simp [List.take_set]
  · exact ⟨ps, h1, row_far_set (row_far_set h2 hg _ _) hg _ _⟩
theorem Kp.on (h : Kp w5 D1 n1 d1 Dp m dp lq g11 W) (hb : Below W.heap.size W W') : Kp w5 D1 n1 d1 Dp m dp lq g11 W' := ⟨h.hold.on hb, h.row.on hb, fun x hx => (h.rs x hx).on hb, h.out.on hb⟩
theorem Kp.drew (h : Kp w5 D1 n1 d1 Dp m dp lq g11 W) : Kp w5 D1 n1 d1 Dp m dp lq g11 W.drew := h.on ⟨rfl, rfl, rfl, Nat.le_refl _, fun _ _ => rfl⟩
/-- A point written into one of the rings. -/
theorem Kp.write (h : Kp w5 D1 n1 d1 Dp m dp lq g11 W) {A : Option Addr} {n c : Nat} (hs : Shp w5.heap.size A n c W) {k : Nat} (hk : k < n) (q : Int × Int) : ∃ g, A = some ⟨g, 0, none⟩ ∧ (∃ a b, W.cell? ⟨g, k * 2, none⟩ = some a ∧ W.cell? ⟨g, k * 2 + 1, none⟩ = some b) ∧ (W.frozen? ⟨g, k * 2, none⟩ = false ∧ W.frozen? ⟨g, k * 2 + 1, none⟩ = false) ∧ Kp w5 D1 n1 d1 Dp m dp lq g11 ((W.setCell ⟨g, k * 2, none⟩ (.int .i64 q.1)).setCell ⟨g, k * 2 + 1, none⟩ (.int .i64 q.2)) := by
  obtain ⟨ps, h1, h2⟩ := hs
  obtain ⟨hl, ⟨hv, hz⟩ | ⟨g, cap, cur, hv, hb, hh, hn, hc, hsz, ht⟩⟩ := h2
  · omega
  · obtain ⟨rfl, -, rfl⟩ := Value.slice.inj hv
    have hne : ∀ e ∈ [(g11, #[Value.slice D1 n1 d1, Value.slice Dp m dp], 26)], e.1 ≠ g := fun e he e' => by
      rw [List.mem_singleton.1 he] at e'
      have := (h.hold.2.1 _ List.mem_cons_self).1
      simp only at e' this
      rw [e', hh] at this
      cases this
    have hrow : (Value.slice Dp m dp).ownBlock ≠ some g := row_block h.row.2 hh (show (44 : Nat) ≠ 40 by decide)
    have hh2 := (h.hold.other hb hne (k * 2) (.int .i64 q.1)).other hb hne (k * 2 + 1) (.int .i64 q.2)
    have hlt : k * 2 + 1 < cur.size := by rw [hsz]; omega
    refine ⟨g, rfl, ⟨cur[k * 2], cur[k * 2 + 1], ?_, ?_⟩, ⟨blk_frozen hh _, blk_frozen hh _⟩, hh2, ⟨hh2.1, row_far_set (row_far_set h.row.2 hrow _ _) hrow _ _⟩, fun x hx => (h.rs x hx).set k q, h.out.set k q⟩
    · rw [blk_cell hh, Array.getElem?_eq_getElem (by omega)]
    · rw [blk_cell hh, Array.getElem?_eq_getElem hlt]
end
set_option maxRecDepth 100000 in
set_option maxHeartbeats 2000000 in
theorem keeps_walk (o : List (Int × Int)) (Ao : Option Addr) (co : Nat) (l : List PV) (Ap : Option Addr) (cp : Nat) (id : Int) (path : List (Int × Int)) (A : Option Addr) (ca : Nat) (fresh : Int) (hl : l.length ≤ 8796093022208) (hown : ∀ x ∈ l, x.par.own.size ≤ maxLen) (hn : path.length * 16 ≤ 140737488355328) (hnA : NilOk A ca) (w : World) (h : PlanAt w o Ao co l Ap cp) (hq : Pts w w.heap.size A path) :
    Calls Tryz.prog 7 #[.agg #[.slice Ao o.length co, .slice Ap l.length cp], .int .i64 id, .slice A path.length ca, .int .i64 fresh] w fun e w' => e = .returned (.bool true) ∧ Below w.heap.size w w' := by
  have HAN := Lib.hid (fun W => cut_answers W)
  have HFW := Lib.hid (fun K W (hh : Hold w K W) => few6_any o Ao co l Ap cp (by have := h.room; omega) W (h.prs.on hh.1))
  have HOW := Lib.hid (fun (hl : l.length ≤ 80) K W (hh : Hold w K W) => Own_any o Ao co l Ap cp (by omega) W (h.on hh.1))
  have HSP := Lib.hid (fun (hl : l.length ≤ 80) A1 c1 l' Ap1 cp1 (hm : l'.map PV.par = l.map PV.par) A2 c2 (hn2 : NilOk A2 c2) W (hp : PlanAt W o A1 c1 l' Ap1 cp1) (hq : Pts W W.heap.size A2 path) => by
    have hx := Split_any o A1 c1 l' Ap1 cp1 id path A2 c2 fresh (by rw [lenQ_par hm]; omega) (by have := h.room; omega) (fun x hx => by
      obtain ⟨y, hy, e⟩ := memQ_par hm.symm hx
      rw [← e]; exact hown y hy) hn hn2 W hp hq
    rw [hm] at hx
    exact hx)
  have HSM := Lib.hid (fun A1 c1 l' Ap1 cp1 (hm : l'.map PV.par = l.map PV.par) W (hp : PlanAt W o A1 c1 l' Ap1 cp1) K (hh : Hold w K W) => by
    have hx := ref_samePlan o o A1 c1 l' Ap1 cp1 Ao co l Ap cp (by have := h.room; unfold maxLen; omega) (by rw [lenQ_par hm]; exact hl) W hp.prs (h.prs.on hh.1) hp.out (h.out.on hh.1)
    rw [hm, show decide (o = o ∧ l.map PV.par = l.map PV.par) = true by simp] at hx
    exact hx)
  have HSW := Lib.hid (fun A2 c2 W (hp : Pts W W.heap.size A2 path) K (hh : Hold w K W) => by
    have hx := ref_same path path A2 A c2 ca (by unfold maxLen; omega) W hp (hq.on hh.1)
    rw [show decide (path = path) = true by simp] at hx
    exact hx)
  have HPA := Lib.hid (fun K W (hh : Hold w K W) => hq.on hh.1)
  have HLN := Lib.hid hn
  have HNA := Lib.hid hnA
  have HQ := (Hold.refl w).new #[.slice Ao o.length co, .slice Ap l.length cp] 26
  clear h hq hl hown hn hnA
  go_enter Tryz.func7, Tryz.ntmps7
  go_upto_region 1 with (fail)
  generalize (World.alloc _ _) = W1 at HQ ⊢
  obtain ⟨g4, hg4⟩ : ∃ g, w.heap.size = g := ⟨_, rfl⟩
  rw [hg4] at HQ ⊢
  have HG4 := Lib.hid hg4
  clear hg4
  have HQ1 := Lib.hid HQ
  clear HQ
  go_wp2_with fail
  go_at_call 12
  refine (HAN.out _).mono ?_
  rintro e' W2 ⟨rfl, hB⟩
  have hq2 := HQ1.out.on hB
  obtain ⟨c0, c1⟩ := hq2.pt (.head _)
  have HQ2 := Lib.hid hq2
  clear hB hq2
  go_wp2_with fail
  go_at_call 13
  refine (HFW.out _ _ HQ2.out).mono ?_
  rintro e' W3 ⟨b, rfl, hb80, hB⟩
  have hq3 := HQ2.out.on hB
  have HB80 := Lib.hid hb80
  clear c0 c1 hB hb80
  obtain ⟨c0, c1⟩ := hq3.pt (.head _)
  have HQ3 := Lib.hid hq3
  clear hq3
  cases b
  · go_wp2_with (go_at_call 12; go_must (refine (HAN.out _).mono ?_; rintro e' W8 ⟨rfl, hB⟩; have HQ8 := Lib.hid (HQ3.out.on hB); clear hB))
    go_ret
    exact ⟨rfl, HQ8.out.1⟩
  · by_cases h150 : 150 < path.length
    · have h1 : 150 < (path.length : Int) := by omega
      go_wp2_with (go_at_call 12; go_must (refine (HAN.out _).mono ?_; rintro e' W8 ⟨rfl, hB⟩; have HQ8 := Lib.hid (HQ3.out.on hB); clear hB))
      go_ret
      exact ⟨rfl, HQ8.out.1⟩
    · have h1 : ¬ 150 < (path.length : Int) := by omega
      have HL80 : Hid (l.length ≤ 80) := (HB80.out (by first | trivial | rfl)).2.2
      clear HB80
      go_wp2_with fail
      go_at_call 22
      refine (HOW.out HL80.out _ _ HQ3.out).mono ?_
      rintro e' W4 ⟨hB, A1, c1', l', Ap1, cp1, rfl, hm, hp⟩
      have hq4 := HQ3.out.on hB
      have HQ4 := Lib.hid hq4
      have HP4 := Lib.hid hp
      have HM4 := Lib.hid hm
      have HLE : Hid (l'.length = l.length) := lenQ_par hm
      have HMD := Lib.hid (Row.made W4 44 rfl)
      clear hB hq4 hp hm c0 c1 HOW HFW
      go_upto_region 4 with (at_builtin; go_must (refine append_pts _ Tryz.underlying23 HMD.out path A ca (HPA.out _ _ (HQ4.out.on HMD.out.1)) HNA.out (by have := HLN.out; simpa using this) rfl _ _ rfl rfl rfl ?_; rintro v5 W5 HR5; rw [List.nil_append] at HR5; have hq5 := HQ4.out.on HR5.1; obtain ⟨A5, c5, rfl, hp5, hn5, -⟩ := HR5.full; have hpl5 := HP4.out.on HR5.1; have HQ5 := Lib.hid hq5; have HP5 := Lib.hid hp5; have HN5 := Lib.hid hn5; have HPL5 := Lib.hid hpl5; clear hq5 hp5 hn5 hpl5 HR5))
      have hbA := (Below.refl W5.heap.size W5).alloc (Nat.le_refl _) (Obj.cells #[.slice A1 o.length c1', .slice Ap1 l.length cp1] 26 (0, 0))
      have hq6 := HQ5.out.new #[.slice A1 o.length c1', .slice Ap1 l.length cp1] 26
      have hpl6 := HPL5.out.on hbA
      have hp6 := HP5.out.on hbA
      generalize (World.alloc _ _) = W6 at hq6 hpl6 hp6 ⊢
      generalize W5.heap.size = g9 at hq6 ⊢
      have HQ6 := Lib.hid hq6
      have HPL6 := Lib.hid hpl6
      have HP6 := Lib.hid hp6
      obtain ⟨c0, c1⟩ := hq6.pt (.head _)
      clear hbA hq6 hpl6 hp6 HMD HQ5 HP5 HPL5 HQ4 HP4 HPA HNA HLN
      go_wp2_with fail
      go_at_call 23
      have hx := HSP.out HL80.out _ _ _ _ _ HM4.out _ _ HN5.out _ HPL6.out HP6.out
      rw [HLE.out] at hx
      refine hx.mono ?_
      clear hx HSP c0 c1
      have HS1 := Lib.hid (fun W (hb : Below W6.heap.size W6 W) => HSM.out A1 c1' l' Ap1 cp1 HM4.out W (HPL6.out.on hb) _ (HQ6.out.on hb))
      have HS2 := Lib.hid (fun W (hb : Below W6.heap.size W6 W) => HSW.out A5 c5 W (HP6.out.on hb) _ (HQ6.out.on hb))
      rw [HLE.out] at HS1
      clear HSM HSW HPL6 HP6 HM4 HLE
      rintro e' W7 ⟨hB7, ⟨hne, rfl⟩ | ⟨hz, D1, d1, Dp, dp, lq, rfl, hml, r1, r2, r3⟩⟩
      · have e0 : (sptE o (l.map PV.par) id path fresh == 0) = false := by simpa using hne
        have f0 : ¬ sptE o (l.map PV.par) id path fresh = 0 := hne
        clear hne
        generalize sptE o (l.map PV.par) id path fresh = se at *
        have HB7 := Lib.hid (hB7.alloc hB7.size (Obj.cells #[.slice none 0 0, .slice none 0 0] 26 (0, 0)))
        clear hB7
        go_upto_region 5 with (fail)
        generalize (World.alloc _ _) = W8 at HB7 ⊢
        obtain ⟨c0, c1⟩ := (HQ6.out.on HB7.out).pt (.head _)
        obtain ⟨c2, c3⟩ := (HQ6.out.on HB7.out).pt (.tail _ (.head _))
        go_wp2_with fail
        go_at_call 16
        refine (HS1.out _ HB7.out).mono ?_
        rintro e' W9 ⟨rfl, hB⟩
        have HB9 := Lib.hid (HB7.out.trans (hB.mono HB7.out.size))
        clear c0 c1 c2 c3
        obtain ⟨c0, c1⟩ := (HQ6.out.on HB9.out).pt (.head _)
        obtain ⟨c2, c3⟩ := (HQ6.out.on HB9.out).pt (.tail _ (.head _))
        go_wp2_with fail
        go_at_call 21
        refine (HS2.out _ HB9.out).mono ?_
        rintro e' W10 ⟨rfl, hB⟩
        have HB10 := Lib.hid (HB9.out.trans (hB.mono HB9.out.size))
        clear c0 c1 c2 c3
        obtain ⟨c0, c1⟩ := (HQ6.out.on HB10.out).pt (.head _)
        obtain ⟨c2, c3⟩ := (HQ6.out.on HB10.out).pt (.tail _ (.head _))
        go_wp2_with fail
        go_at_call 16
        refine (HS1.out _ HB10.out).mono ?_
        rintro e' W11 ⟨rfl, hB⟩
        have HB11 := Lib.hid (HB10.out.trans (hB.mono HB10.out.size))
        clear c0 c1 c2 c3
        obtain ⟨c0, c1⟩ := (HQ6.out.on HB11.out).pt (.head _)
        obtain ⟨c2, c3⟩ := (HQ6.out.on HB11.out).pt (.tail _ (.head _))
        go_wp2_with fail
        go_at_call 21
        refine (HS2.out _ HB11.out).mono ?_
        rintro e' W12 ⟨rfl, hB⟩
        have HB12 := Lib.hid (HB11.out.trans (hB.mono HB11.out.size))
        clear c0 c1 c2 c3
        obtain ⟨c0, c1⟩ := (HQ6.out.on HB12.out).pt (.head _)
        obtain ⟨c2, c3⟩ := (HQ6.out.on HB12.out).pt (.tail _ (.head _))
        clear c0 c1 c2 c3
        go_wp2
        go_ret
        exact ⟨rfl, (HQ6.out.on HB12.out).1⟩
      · have HK7 : Kp W6 D1 (putE o path).length d1 Dp lq.length dp lq W7.heap.size (W7.alloc (Obj.cells #[.slice D1 (putE o path).length d1, .slice Dp lq.length dp] 26 (0, 0))) :=
          have hba := (Below.refl W7.heap.size W7).alloc (Nat.le_refl _) (Obj.cells #[.slice D1 (putE o path).length d1, .slice Dp lq.length dp] 26 (0, 0))
          ⟨((Hold.refl W6).on hB7).new _ _, r2.alloc _, fun x hx => Shp.on ⟨x.par.ring, rfl, r3 x hx⟩ hba, Shp.on ⟨putE o path, rfl, r1.2⟩ hba⟩
        have HSP := Lib.hid (split_plan hz hml r1 r2 r3)
        have HN1 : Hid ((putE o path).length ≤ 128 ∧ lq.length ≤ 64 ∧ ∀ x ∈ lq, x.par.ring.length ≤ 128) := ⟨HSP.out.2.2.1, HSP.out.2.1, fun x hx => (((chkQ_iff _ _).1 (sp_zero hz).2.2.2).ringP (by rw [← hml]; exact List.mem_map_of_mem hx)).2.2⟩
        clear HSP hz hml r1 r2 r3 hB7
        generalize (putE o path).length = n1 at *
        go_upto_region 5 with (fail)
        generalize (World.alloc _ _) = W8 at HK7 ⊢
        generalize W7.heap.size = g11 at HK7 ⊢
        have HB7 := Lib.hid HK7.hold.1
        have HK8 := Lib.hid HK7
        clear HK7
        obtain ⟨c0, c1⟩ := (HQ6.out.on HB7.out).pt (.head _)
        obtain ⟨c2, c3⟩ := (HQ6.out.on HB7.out).pt (.tail _ (.head _))
        go_wp2_with fail
        go_at_call 16
        refine (HS1.out _ HB7.out).mono ?_
        rintro e' W9 ⟨rfl, hB⟩
        have HK9 := Lib.hid (HK8.out.on hB)
        have HB9 := Lib.hid (HB7.out.trans (hB.mono HB7.out.size))
        clear c0 c1 c2 c3
        obtain ⟨c0, c1⟩ := (HQ6.out.on HB9.out).pt (.head _)
        obtain ⟨c2, c3⟩ := (HQ6.out.on HB9.out).pt (.tail _ (.head _))
        go_wp2_with fail
        go_at_call 21
        refine (HS2.out _ HB9.out).mono ?_
        rintro e' W10 ⟨rfl, hB⟩
        have HK10 := Lib.hid (HK9.out.on hB)
        have HB10 := Lib.hid (HB9.out.trans (hB.mono HB9.out.size))
        clear c0 c1 c2 c3
        obtain ⟨c0, c1⟩ := (HQ6.out.on HB10.out).pt (.head _)
        obtain ⟨c2, c3⟩ := (HQ6.out.on HB10.out).pt (.tail _ (.head _))
        clear c0 c1 c2 c3
        go_wp2_with fail
        go_loopg [13] lq.length (fun g i wr => ∃ k : Nat, k ≤ lq.length ∧ g = lq.length - k ∧ i = .int .i64 k ∧ Kp W6 D1 n1 d1 Dp lq.length dp lq g11 wr)
        case atStart => exact ⟨0, Nat.zero_le _, rfl, rfl, HK10.out⟩
        case round =>
          obtain ⟨k, hk, hgk, rfl, HB⟩ := hrel
          have HGK := Lib.hid hgk
          clear hgk
          obtain ⟨m0, m1⟩ := HB.hold.pt (.head _)
          by_cases hlt : k < lq.length
          · have b0 : (0 : Int) ≤ (k : Int) := by omega
            have b1 : (k : Int) < (lq.length : Int) := by omega
            have b9 : (lq.length : Int) ≤ 64 := by have := HN1.out; omega
            have HX : Hid (lq[k] ∈ lq) := List.getElem_mem hlt
            have HXR : Hid (∀ W, Kp W6 D1 n1 d1 Dp lq.length dp lq g11 W → ∃ ad, Dp = some ad ∧ W.cell? ⟨(ad.add (k * 3)).block, (ad.add (k * 3)).off + 1, none⟩ = some (.slice lq[k].A lq[k].par.ring.length lq[k].cap)) := fun W hW => by
              obtain ⟨ad, e, -, -, hc⟩ := (hW.row.full).1.at kindV.len hlt
              exact ⟨ad, e, hc 1 _ (by decide) (by decide) rfl⟩
            have HXS : Hid (∀ W, Kp W6 D1 n1 d1 Dp lq.length dp lq g11 W → Shp W6.heap.size lq[k].A lq[k].par.ring.length lq[k].cap W) := fun W hW => hW.rs _ (List.getElem_mem hlt)
            have HXN : Hid (lq[k].par.ring.length ≤ 128) := HN1.out.2.2 _ (List.getElem_mem hlt)
            obtain ⟨ad, hA, -⟩ := HXR.out _ HB
            subst hA
            have HXC : Hid (∀ W, Kp W6 D1 n1 d1 (some ad) lq.length dp lq g11 W → W.cell? ⟨(ad.add (k * 3)).block, (ad.add (k * 3)).off + 1, none⟩ = some (.slice lq[k].A lq[k].par.ring.length lq[k].cap)) := fun W hW => by
              obtain ⟨ad', e, hc⟩ := HXR.out _ hW
              obtain rfl := Option.some.inj e
              exact hc
            have HBK := Lib.hid HB
            clear HXR HX HB
            generalize lq[k].par.ring.length = rn at *
            generalize lq[k].A = Ar at *
            generalize lq[k].cap = cr at *
            go_wp2_with fail
            clear m0 m1
            go_loopg [14] rn (fun g i wr => ∃ j : Nat, j ≤ rn ∧ g = rn - j ∧ i = .int .i64 j ∧ Kp W6 D1 n1 d1 (some ad) lq.length dp lq g11 wr)
            case atStart => exact ⟨0, Nat.zero_le _, rfl, rfl, HBK.out⟩
            case round =>
              obtain ⟨j, hj, hgj, rfl, HB⟩ := hrel
              have HGJ := Lib.hid hgj
              clear hgj
              obtain ⟨m0, m1⟩ := HB.hold.pt (.head _)
              have d1' := HXC.out _ HB
              by_cases hjt : j < rn
              · have b2 : (0 : Int) ≤ (j : Int) := by omega
                have b3 : (j : Int) < (rn : Int) := by omega
                obtain ⟨g, hA, ⟨u, v, k0, k1⟩, ⟨z0, z1⟩, hw⟩ := HB.write (HXS.out _ HB) hjt (99, 99)
                subst hA
                have HW := Lib.hid hw
                clear hw HB
                have b8 : (rn : Int) ≤ 128 := by have := HXN.out; omega
                go_wp2
                go_roundg (rn - (j + 1))
                case measure => have := HGJ.out; omega
                case rel => exact ⟨j + 1, by omega, rfl, by go_num, HW.out⟩
              · obtain rfl : j = rn := by omega
                have HB2 := Lib.hid HB
                clear HB
                go_wp2
                go_roundg (lq.length - (k + 1))
                case measure => have := HGK.out; omega
                case rel => exact ⟨k + 1, by omega, rfl, by go_num, HB2.out⟩
          · obtain rfl : k = lq.length := by omega
            have HBK := Lib.hid HB
            clear HB
            have b0 : ¬ ((lq.length : Int) < (lq.length : Int)) := by omega
            go_wp2_with fail
            clear m0 m1
            go_loopg [15] n1 (fun g i wr => ∃ j : Nat, j ≤ n1 ∧ g = n1 - j ∧ i = .int .i64 j ∧ Kp W6 D1 n1 d1 Dp lq.length dp lq g11 wr)
            case atStart => exact ⟨0, Nat.zero_le _, rfl, rfl, HBK.out⟩
            case round =>
              obtain ⟨j, hj, hgj, rfl, HB⟩ := hrel
              have HGJ := Lib.hid hgj
              clear hgj
              obtain ⟨m0, m1⟩ := HB.hold.pt (.head _)
              have b9 : (n1 : Int) ≤ 128 := by have := HN1.out.1; omega
              by_cases hjt : j < n1
              · have b2 : (0 : Int) ≤ (j : Int) := by omega
                have b3 : (j : Int) < (n1 : Int) := by omega
                obtain ⟨g, hA, ⟨u, v, k0, k1⟩, ⟨z0, z1⟩, hw⟩ := HB.write HB.out hjt (98, 98)
                subst hA
                have HW := Lib.hid hw
                clear hw HB
                go_wp2
                go_roundg (n1 - (j + 1))
                case measure => have := HGJ.out; omega
                case rel => exact ⟨j + 1, by omega, rfl, by go_num, HW.out⟩
              · obtain rfl : j = n1 := by omega
                have b0 : ¬ ((j : Int) < (j : Int)) := by omega
                have HB9 := Lib.hid HB.hold.1
                clear HB
                obtain ⟨c0, c1⟩ := (HQ6.out.on HB9.out).pt (.head _)
                obtain ⟨c2, c3⟩ := (HQ6.out.on HB9.out).pt (.tail _ (.head _))
                go_wp2_with fail
                go_at_call 16
                refine (HS1.out _ HB9.out).mono ?_
                rintro e' W11 ⟨rfl, hB⟩
                have HB11 := Lib.hid (HB9.out.trans (hB.mono HB9.out.size))
                clear c0 c1 c2 c3
                obtain ⟨c0, c1⟩ := (HQ6.out.on HB11.out).pt (.head _)
                obtain ⟨c2, c3⟩ := (HQ6.out.on HB11.out).pt (.tail _ (.head _))
                go_wp2_with fail
                go_at_call 21
                refine (HS2.out _ HB11.out).mono ?_
                rintro e' W12 ⟨rfl, hB⟩
                have HB12 := Lib.hid (HB11.out.trans (hB.mono HB11.out.size))
                clear c0 c1 c2 c3
                obtain ⟨c0, c1⟩ := (HQ6.out.on HB12.out).pt (.head _)
                obtain ⟨c2, c3⟩ := (HQ6.out.on HB12.out).pt (.tail _ (.head _))
                clear c0 c1 c2 c3
                go_wp2
                go_ret
                exact ⟨rfl, (HQ6.out.on HB12.out).1⟩
end Go.Proofs.YtplbfiglkllljaaGreat
