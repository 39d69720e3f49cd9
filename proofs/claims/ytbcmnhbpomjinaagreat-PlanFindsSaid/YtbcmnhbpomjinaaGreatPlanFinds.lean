/- The walk of PlanFinds. -/
import Derived.Test.YtbcmnhbpomjinaaGreatFindsM
namespace Go.Proofs.YtbcmnhbpomjinaaGreat
open Go.RowKit

/-- Blocks of the call's own, and nothing of a later world has turned. -/
def Fnd (w w9 : World) (L : List (Nat × Array Value × TypeId)) (W : World) : Prop := Hold w L W ∧ Below w9.heap.size w9 W
section
variable {w w9 W W' : World} {L : List (Nat × Array Value × TypeId)}
theorem Fnd.on (h : Fnd w w9 L W) (hb : Below W.heap.size W W') : Fnd w w9 L W' := ⟨h.1.on hb, h.2.trans (hb.mono h.2.size)⟩
theorem Fnd.drew (h : Fnd w w9 L W) : Fnd w w9 L W.drew := ⟨h.1.drew, h.2.drew⟩
theorem Fnd.alloc (h : Fnd w w9 L W) (o : Obj) : Fnd w w9 L (W.alloc o) := ⟨h.1.alloc o, h.2.alloc h.2.size _⟩
theorem Fnd.b (h : Fnd w w9 L W) : Below w.heap.size w W := h.1.1
end
theorem rgood_lone (p : Int × Int) (cap : Nat) (t : TypeId) (w : World) (W : World) (h : W = w.alloc (Obj.cells #[.int .i64 p.1, .int .i64 p.2] t (0, 0))) :
    Calls Tryz.prog 23 #[.slice (some ⟨w.heap.size, 0, none⟩) 1 cap] W fun e w' => e = .returned (.bool (gd p)) ∧ Below W.heap.size W w' := by
  subst h
  have := ref_good [p] (some ⟨w.heap.size, 0, none⟩) cap _ (by unfold maxLen; simp) (pts_of (heap_alloc_new w (Obj.cells #[.int .i64 p.1, .int .i64 p.2] t (0, 0))) (by simp))
  have e : gdL [p] = gd p := by simp [gdL]
  rw [e] at this
  exact this
theorem ring_small {o : List (Int × Int)} {l : List PV} {x : PV} (hx : x ∈ l) (h : cornN o l l.length ≤ 400) : x.par.ring.length ≤ 1000000 := by
  obtain ⟨i, hi, rfl⟩ := List.getElem_of_mem hx
  have h1 := cornN_succ (o := o) (List.getElem?_eq_getElem hi)
  have h2 := cornN_mono (o := o) (l := l) (show i + 1 ≤ l.length by omega)
  omega
def zpar : Par := ⟨0, [], ⟨#[]⟩⟩
theorem found_any {w w' : World} {o : List (Int × Int)} {l : List PV} {id : Int} {e : Ending} (h : FoundAt w w' o l id e) : Below w.heap.size w w' ∧ ∃ (fp : Par) (A : Option Addr) (c : Nat) (fe : Int), e = .returned (.tuple #[.agg #[.int .i64 fp.id, .slice A fp.ring.length c, .string fp.own], .int .i64 fe]) ∧ Pts w' w'.heap.size A fp.ring ∧
    ((chkB o l = false ∧ fp = zpar ∧ fe = 2) ∨ (chkB o l = true ∧ (∀ x ∈ l, x.par.id ≠ id) ∧ fp = zpar ∧ fe = 5) ∨ (chkB o l = true ∧ ∃ x ∈ l, x.par.id = id ∧ fp = x.par ∧ fe = 0)) := by
  obtain ⟨hb, ⟨h1, rfl⟩ | ⟨h1, h2, rfl⟩ | ⟨h1, x, hx, h2, A, c, rfl, h3, h4, h5⟩⟩ := h
  · exact ⟨hb, zpar, none, 0, 2, rfl, (fun h => absurd h (by simp [zpar])), .inl ⟨h1, rfl, rfl⟩⟩
  · exact ⟨hb, zpar, none, 0, 5, rfl, (fun h => absurd h (by simp [zpar])), .inr (.inl ⟨h1, h2, rfl, rfl⟩)⟩
  · exact ⟨hb, x.par, A, c, 0, rfl, h3, .inr (.inr ⟨h1, x, hx, h2, rfl, rfl⟩)⟩
set_option maxRecDepth 100000 in
set_option maxHeartbeats 4000000 in
theorem finds_walk (o : List (Int × Int)) (Ao : Option Addr) (co : Nat) (l : List PV) (Ap : Option Addr) (cp : Nat) (id : Int) (p : Int × Int) (e : (Int × Int) × (Int × Int)) (he : OkE e) (hl : l.length ≤ 8796093022208) (hown : ∀ x ∈ l, x.par.own.size ≤ maxLen) (w : World) (h : PlanAt w o Ao co l Ap cp) :
    Calls Tryz.prog 3 #[.agg #[.slice Ao o.length co, .slice Ap l.length cp], .int .i64 id, .agg #[.int .i64 p.1, .int .i64 p.2], .agg #[.int .i64 e.1.1, .int .i64 e.1.2, .int .i64 e.2.1, .int .i64 e.2.2]] w fun e w' => e = .returned (.bool true) ∧ Below w.heap.size w w' := by
  have hlo : o.length ≤ 8796093022208 := by have := h.room; omega
  have HAN := Lib.hid (fun W => plan_answers W)
  have HSM := Lib.hid (fun W (hb : Below w.heap.size w W) => small_any o Ao co l Ap cp hlo W (h.prs.on hb))
  have HOW := Lib.hid (fun W (hb : Below w.heap.size w W) (hll : l.length ≤ 1000000) => Own_any o Ao co l Ap cp hll W (h.on hb))
  have HLF := Lib.hid (fun W A1 c1 l' Ap1 cp1 (hll : l.length ≤ 1000000) (hm : l'.map PV.par = l.map PV.par) (hp : PlanAt W o A1 c1 l' Ap1 cp1) => owned_left e he hll hlo hown hm hp)
  have HCN := Lib.hid (fun W A1 c1 l' Ap1 cp1 (hll : l.length ≤ 1000000) (hm : l'.map PV.par = l.map PV.par) (hp : PlanAt W o A1 c1 l' Ap1 cp1) => owned_corner p hll hlo hown hm hp)
  have HFD := Lib.hid (fun W A1 c1 l' Ap1 cp1 (hll : l.length ≤ 1000000) (hm : l'.map PV.par = l.map PV.par) (hp : PlanAt W o A1 c1 l' Ap1 cp1) => owned_find id hll hlo hown hm hp)
  have HRC := Lib.hid (fun W (hb : Below w.heap.size w W) (hll : l.length ≤ 1000000) (h4 : o.length ≤ 400) => ref_chk o Ao co l Ap cp hll (by omega) hown W (h.prs.on hb) (h.out.on hb))
  have HRA := Lib.hid (fun W (hb : Below w.heap.size w W) (hll : l.length ≤ 1000000) => ref_at o Ao co l Ap cp id hll W (h.prs.on hb))
  have HRK := Lib.hid (fun W (hb : Below w.heap.size w W) (hll : l.length ≤ 1000000) => ref_corner o Ao co l Ap cp p hll W (h.prs.on hb))
  have HPR := Lib.hid (fun W (hb : Below w.heap.size w W) => h.prs.on hb)
  have HQ := (((Hold.refl w).new #[.slice Ao o.length co, .slice Ap l.length cp] 26).new' #[.int .i64 p.1, .int .i64 p.2] 28 (n := w.heap.size + 1) (by simp)).new' #[.int .i64 e.1.1, .int .i64 e.1.2, .int .i64 e.2.1, .int .i64 e.2.2] 30 (n := w.heap.size + 1 + 1) (by simp)
  clear h hown hlo
  go_enter Tryz.func3, Tryz.ntmps3
  go_upto_region 1 with (fail)
  generalize (World.alloc _ _) = W1 at HQ ⊢
  generalize w.heap.size + 1 + 1 = g2 at HQ ⊢
  generalize w.heap.size + 1 = g1 at HQ ⊢
  generalize w.heap.size = g0 at HQ ⊢
  have HQX := Lib.hid HQ
  clear HQ
  go_wp2_with fail
  go_at_call 14
  refine (HAN.out _).mono ?_
  rintro e' W2 ⟨rfl, hB⟩
  have hq := HQX.out.on hB
  have HQ2 := Lib.hid hq
  obtain ⟨c0, c1⟩ := hq.pt (.tail _ (.tail _ (.head _)))
  clear hB hq
  go_wp2_with fail
  go_at_call 15
  refine (HSM.out _ HQ2.out.1).mono ?_
  rintro e' W3 ⟨b, rfl, hsm, hB⟩
  have hq := HQ2.out.on hB
  have HQ3 := Lib.hid hq
  have HS := Lib.hid hsm
  clear hB c0 c1 hsm
  obtain ⟨c0, c1⟩ := hq.pt (.tail _ (.tail _ (.head _)))
  clear hq
  cases b
  · go_wp2_with (go_at_call 14; go_must (refine (HAN.out _).mono ?_; rintro e' W4 ⟨rfl, hB⟩; have HB4 := Lib.hid (HQ3.out.on hB).1; clear hB))
    go_ret
    exact ⟨rfl, HB4.out⟩
  · obtain ⟨s1, s2, s3⟩ := HS.out rfl
    have HL1 : Hid (l.length ≤ 1000000) := by unfold Hid; omega
    have HO4 := Lib.hid s1
    have HSML := Lib.hid (fun x (hx : x ∈ l) => ring_small (x := x) hx s2)
    clear s1 s2 s3 HS
    have HOL := Lib.hid (fun W hb => HOW.out W hb HL1.out)
    have HRX := Lib.hid (fun W hb => HRC.out W hb HL1.out HO4.out)
    go_wp2_with fail
    go_at_call 17
    refine (HOL.out _ HQ3.out.1).mono ?_
    rintro e' W4 ⟨hB, A1, cA, l', Ap1, cp1, rfl, hm, hp⟩
    have hq := HQ3.out.on hB
    have HQ4 := Lib.hid hq
    have HF4 := Lib.hid (HFD.out W4 A1 cA l' Ap1 cp1 HL1.out hm hp)
    clear hB hm hp c0 c1 hq
    go_wp2_with fail
    go_at_call 16
    refine HF4.out.mono ?_
    rintro e' W5 hfd
    obtain ⟨hB, fp, A9, c9, fe, rfl, hpt, hds⟩ := found_any hfd
    have hq := (HQ4.out.on hB).new #[.int .i64 fp.id, .slice A9 fp.ring.length c9, .string fp.own] 34
    have HPT5 := hpt.on ((Below.refl _ W5).alloc (Nat.le_refl _) (.cells #[.int .i64 fp.id, .slice A9 fp.ring.length c9, .string fp.own] 34 (0, 0)))
    have HDS := Lib.hid hds
    clear hB hfd hpt hds HF4 HFD HQ3 HQ2 HQX HSM HOW HRC
    go_upto_region 4 with (fail)
    generalize (World.alloc _ _) = W9 at hq HPT5 ⊢
    generalize W5.heap.size = g9 at hq ⊢
    have HPT := Lib.hid (fun W (hb : Below W9.heap.size W9 W) => HPT5.on hb)
    have hf : Fnd w W9 [(g9, #[.int .i64 fp.id, .slice A9 fp.ring.length c9, .string fp.own], 34), (g2, #[.int .i64 e.1.1, .int .i64 e.1.2, .int .i64 e.2.1, .int .i64 e.2.2], 30), (g1, #[.int .i64 p.1, .int .i64 p.2], 28), (g0, #[.slice Ao o.length co, .slice Ap l.length cp], 26)] W9 := ⟨hq, Below.refl _ _⟩
    clear hq HPT5
    have HKC := Lib.hid (fun W (h : Fnd w W9 [(g9, #[.int .i64 fp.id, .slice A9 fp.ring.length c9, .string fp.own], 34), (g2, #[.int .i64 e.1.1, .int .i64 e.1.2, .int .i64 e.2.1, .int .i64 e.2.2], 30), (g1, #[.int .i64 p.1, .int .i64 p.2], 28), (g0, #[.slice Ao o.length co, .slice Ap l.length cp], 26)] W) => (show (W.cell? ⟨g0, 0, none⟩ = some (.slice Ao o.length co) ∧ W.cell? ⟨g0, 1, none⟩ = some (.slice Ap l.length cp)) ∧ W.cell? ⟨g1, 0, none⟩ = some (.int .i64 p.1) ∧ W.cell? ⟨g1, 1, none⟩ = some (.int .i64 p.2) from ⟨h.1.pt (.tail _ (.tail _ (.tail _ (.head _)))), h.1.pt (.tail _ (.tail _ (.head _)))⟩))
    have HKE := Lib.hid (fun W (h : Fnd w W9 [(g9, #[.int .i64 fp.id, .slice A9 fp.ring.length c9, .string fp.own], 34), (g2, #[.int .i64 e.1.1, .int .i64 e.1.2, .int .i64 e.2.1, .int .i64 e.2.2], 30), (g1, #[.int .i64 p.1, .int .i64 p.2], 28), (g0, #[.slice Ao o.length co, .slice Ap l.length cp], 26)] W) => (show (W.cell? ⟨g0, 0, none⟩ = some (.slice Ao o.length co) ∧ W.cell? ⟨g0, 1, none⟩ = some (.slice Ap l.length cp)) ∧ W.cell? ⟨g2, 0, none⟩ = some (.int .i64 e.1.1) ∧ W.cell? ⟨g2, 1, none⟩ = some (.int .i64 e.1.2) ∧ W.cell? ⟨g2, 2, none⟩ = some (.int .i64 e.2.1) ∧ W.cell? ⟨g2, 3, none⟩ = some (.int .i64 e.2.2) from ⟨h.1.pt (.tail _ (.tail _ (.tail _ (.head _)))), h.1.cell (.tail _ (.head _)) 0, h.1.cell (.tail _ (.head _)) 1, h.1.cell (.tail _ (.head _)) 2, h.1.cell (.tail _ (.head _)) 3⟩))
    have HKX := Lib.hid (fun W (h : Fnd w W9 [(g9, #[.int .i64 fp.id, .slice A9 fp.ring.length c9, .string fp.own], 34), (g2, #[.int .i64 e.1.1, .int .i64 e.1.2, .int .i64 e.2.1, .int .i64 e.2.2], 30), (g1, #[.int .i64 p.1, .int .i64 p.2], 28), (g0, #[.slice Ao o.length co, .slice Ap l.length cp], 26)] W) => (show W.cell? ⟨g9, 0, none⟩ = some (.int .i64 fp.id) ∧ W.cell? ⟨g9, 1, none⟩ = some (.slice A9 fp.ring.length c9) ∧ W.cell? ⟨g9, 2, none⟩ = some (.string fp.own) from ⟨h.1.cell (.head _) 0, h.1.cell (.head _) 1, h.1.cell (.head _) 2⟩))
    go_cut [11, 12] (fun s11 s12 wx => s11 = .bool (cnV o l p) ∧ s12 = .int .i64 (cnE o l p) ∧ Fnd w W9 [(g9, #[.int .i64 fp.id, .slice A9 fp.ring.length c9, .string fp.own], 34), (g2, #[.int .i64 e.1.1, .int .i64 e.1.2, .int .i64 e.2.1, .int .i64 e.2.2], 30), (g1, #[.int .i64 p.1, .int .i64 p.2], 28), (g0, #[.slice Ao o.length co, .slice Ap l.length cp], 26)] wx)
    case first =>
      have HCO := Lib.hid (fun W A1 c1 l' Ap1 cp1 hm hp => HCN.out W A1 c1 l' Ap1 cp1 HL1.out hm hp)
      clear HLF HCN HRA HRK HPR HPT HDS HRX HAN HKE HKX
      go_region_held3 (fun W => (W.cell? ⟨g0, 0, none⟩ = some (.slice Ao o.length co) ∧ W.cell? ⟨g0, 1, none⟩ = some (.slice Ap l.length cp)) ∧ W.cell? ⟨g1, 0, none⟩ = some (.int .i64 p.1) ∧ W.cell? ⟨g1, 1, none⟩ = some (.int .i64 p.2)) (first | exact HKC.out _ (by assumption) | exact HKC.out _ (Fnd.drew (by assumption))) ((first
        | (go_at_call 17; (with_reducible refine (HOL.out _ (Fnd.b (by first | assumption | exact Fnd.drew (by assumption)))).mono ?_); rintro e' W6 ⟨hB6, A1, cA, l', Ap1, cp1, rfl, hm', hp'⟩; have HS6 := Fnd.on (by first | assumption | exact Fnd.drew (by assumption)) hB6)
        | (go_at_call 18; (with_reducible refine (HCO.out _ _ _ _ _ _ (by assumption) (by assumption)).mono ?_); rintro e' W7 ⟨rfl, hB7⟩; have HS7 := Fnd.on (by first | assumption | exact Fnd.drew (by assumption)) hB7)))
      go_wp2_with fail
      go_meet
      exact ⟨rfl, rfl, HS7⟩
    case rest =>
      obtain ⟨rfl, rfl, hf2⟩ := hcut
      clear hf HKC
      go_upto_region 5 with (fail)
      go_cut [13, 14] (fun s13 s14 wx => s13 = .int .i64 (lfV o l e) ∧ s14 = .int .i64 (lfE o l e) ∧ Fnd w W9 [(g9, #[.int .i64 fp.id, .slice A9 fp.ring.length c9, .string fp.own], 34), (g2, #[.int .i64 e.1.1, .int .i64 e.1.2, .int .i64 e.2.1, .int .i64 e.2.2], 30), (g1, #[.int .i64 p.1, .int .i64 p.2], 28), (g0, #[.slice Ao o.length co, .slice Ap l.length cp], 26)] wx)
      case first =>
        have HLE := Lib.hid (fun W A1 c1 l' Ap1 cp1 hm hp => HLF.out W A1 c1 l' Ap1 cp1 HL1.out hm hp)
        clear HLF HCN HRA HRK HPR HPT HDS HRX HAN HKX
        go_region_held3 (fun W => (W.cell? ⟨g0, 0, none⟩ = some (.slice Ao o.length co) ∧ W.cell? ⟨g0, 1, none⟩ = some (.slice Ap l.length cp)) ∧ W.cell? ⟨g2, 0, none⟩ = some (.int .i64 e.1.1) ∧ W.cell? ⟨g2, 1, none⟩ = some (.int .i64 e.1.2) ∧ W.cell? ⟨g2, 2, none⟩ = some (.int .i64 e.2.1) ∧ W.cell? ⟨g2, 3, none⟩ = some (.int .i64 e.2.2)) (first | exact HKE.out _ (by assumption) | exact HKE.out _ (Fnd.drew (by assumption))) ((first
          | (go_at_call 17; (with_reducible refine (HOL.out _ (Fnd.b (by first | assumption | exact Fnd.drew (by assumption)))).mono ?_); rintro e' W6 ⟨hB6, A1, cA, l', Ap1, cp1, rfl, hm', hp'⟩; have HS6 := Fnd.on (by first | assumption | exact Fnd.drew (by assumption)) hB6)
          | (go_at_call 19; (with_reducible refine (HLE.out _ _ _ _ _ _ (by assumption) (by assumption)).mono ?_); rintro e' W7 ⟨rfl, hB7⟩; have HS7 := Fnd.on (by first | assumption | exact Fnd.drew (by assumption)) hB7)))
        go_wp2_with fail
        go_meet
        exact ⟨rfl, rfl, HS7⟩
      case rest =>
        obtain ⟨rfl, rfl, hf3⟩ := hcut
        clear hf2 HLF HCN HOL
        obtain ⟨c0, c1⟩ := (HKE.out _ hf3).1
        have HF3 := Lib.hid hf3
        clear hf3
        go_wp2_with fail
        go_at_call 20
        refine (HRX.out _ HF3.out.b).mono ?_
        rintro e' W12 ⟨rfl, hB⟩
        have HF12 := Lib.hid (HF3.out.on hB)
        clear c0 c1 hB
        obtain ⟨x0, x1, x2⟩ := HKX.out _ HF12.out
        rcases HDS.out with ⟨hc, rfl, rfl⟩ | hgood
        · have HP := Lib.hid (HPT.out _ HF12.out.2)
          have HSP := Lib.hid (ref_samePar zpar.id zpar.ring zpar.own A9 c9 0 [] ⟨#[]⟩ none 0 (Nat.zero_le _) W12 HP.out (fun h => absurd h (by simp)))
          rw [show decide ((⟨zpar.id, zpar.ring, zpar.own⟩ : Par) = ⟨0, [], ⟨#[]⟩⟩) = true from decide_eq_true rfl] at HSP
          have l1 := lf_bad e hc
          have l2 := cn_bad p hc
          rw [hc, l1.1, l1.2, l2.1, l2.2]
          clear hc l1 l2 HDS HPT HP HRX HRA HRK HPR HKE HKX
          go_wp2_with (go_at_call 21; go_must (refine HSP.out.mono ?_; rintro e' W13 ⟨rfl, hB⟩; have HB13 := Lib.hid (HF12.out.on hB).b; clear hB))
          go_ret
          exact ⟨rfl, HB13.out⟩
        · have hc : chkB o l = true := by rcases hgood with h | h <;> exact h.1
          have hcp := chkB_iff.1 hc
          have HCP := Lib.hid hcp
          have HGD := Lib.hid hgood
          have HCN2 := Lib.hid (fun h => cn_far (p := p) hc h)
          have HCN3 := Lib.hid (fun h => cn_good (p := p) hc h)
          have HLS := Lib.hid (left_says hcp e)
          rw [hc]
          obtain ⟨c0, c1⟩ := (HKE.out _ HF12.out).1
          clear hc hcp hgood HDS HRX
          generalize lfV o l e = lv at *
          generalize lfE o l e = le at *
          generalize cnV o l p = cv at *
          generalize cnE o l p = ce at *
          go_wp2_with fail
          go_at_call 22
          refine (HRA.out _ HF12.out.b HL1.out).mono ?_
          rintro e' W13 ⟨n, rfl, hn, hB⟩
          have hf13 := HF12.out.on hB
          have HPL := Lib.hid hn
          clear c0 c1 x0 x1 x2 hB hn HRA
          go_upto_region 9 with (fail)
          go_cut [105] (fun s wx => s = .bool false ∧ Fnd w W9 [(g9, #[.int .i64 fp.id, .slice A9 fp.ring.length c9, .string fp.own], 34), (g2, #[.int .i64 e.1.1, .int .i64 e.1.2, .int .i64 e.2.1, .int .i64 e.2.2], 30), (g1, #[.int .i64 p.1, .int .i64 p.2], 28), (g0, #[.slice Ao o.length co, .slice Ap l.length cp], 26)] wx)
          case first =>
            clear HCN2 HCN3 HLS HRK HKE HF12
            rcases HGD.out with ⟨_, hno, hfp, hfe⟩ | ⟨_, x, hx, hid, hfp, hfe⟩
            · obtain rfl := found_no HPL.out hno
              subst hfp hfe
              have HKA := Lib.hid (fun W (h : Fnd w W9 [(g9, #[.int .i64 zpar.id, .slice A9 zpar.ring.length c9, .string zpar.own], 34), (g2, #[.int .i64 e.1.1, .int .i64 e.1.2, .int .i64 e.2.1, .int .i64 e.2.2], 30), (g1, #[.int .i64 p.1, .int .i64 p.2], 28), (g0, #[.slice Ao o.length co, .slice Ap l.length cp], 26)] W) => HKX.out W h)
              have HSP := Lib.hid (fun W (h : Fnd w W9 [(g9, #[.int .i64 zpar.id, .slice A9 zpar.ring.length c9, .string zpar.own], 34), (g2, #[.int .i64 e.1.1, .int .i64 e.1.2, .int .i64 e.2.1, .int .i64 e.2.2], 30), (g1, #[.int .i64 p.1, .int .i64 p.2], 28), (g0, #[.slice Ao o.length co, .slice Ap l.length cp], 26)] W) => ref_samePar zpar.id zpar.ring zpar.own A9 c9 0 [] ⟨#[]⟩ none 0 (Nat.zero_le _) W (HPT.out W h.2) (fun h => absurd h (by simp)))
              rw [show decide ((⟨zpar.id, zpar.ring, zpar.own⟩ : Par) = ⟨0, [], ⟨#[]⟩⟩) = true from decide_eq_true rfl] at HSP
              have hz := hf13.drew
              clear HKX HPT HPR HGD HPL hno HCP hf13
              refine wp_region_held_drew (S := fun W => W.cell? ⟨g9, 0, none⟩ = some (.int .i64 zpar.id) ∧ W.cell? ⟨g9, 1, none⟩ = some (.slice A9 zpar.ring.length c9) ∧ W.cell? ⟨g9, 2, none⟩ = some (.string zpar.own)) (by kernel_rfl) ?_ (fun hHeld => ?_)
              · (try dsimp only)
                exact HKA.out _ hz
              refine takeSome (i := 0) (v := ?_) (by decide +kernel) rfl (by rfl) (by decide +kernel) (by decide +kernel) (fun _ _ _ h => h) (by assumption) ?_ ?_
              rotate_left
              focus (intro w0 hSw; (try dsimp only at hSw); go_simp; (try (with_reducible rfl)); done)
              (try simp only [Act.put, List.getElem_toArray, List.getElem_cons_zero, List.setIfInBounds_toArray, List.set_cons_zero, List.set_cons_succ])
              refine takeSome (i := 1) (v := ?_) (by decide +kernel) rfl (by rfl) (by decide +kernel) (by decide +kernel) (fun _ _ _ h => h) (by assumption) ?_ ?_
              rotate_left
              focus (intro w0 hSw; (try dsimp only at hSw); go_simp; (try (with_reducible rfl)); done)
              (try simp only [Act.put, List.getElem_toArray, List.getElem_cons_zero, List.getElem_cons_succ, List.setIfInBounds_toArray, List.set_cons_zero, List.set_cons_succ])
              refine takeSome (i := 2) (v := ?_) (by decide +kernel) rfl (by rfl) (by decide +kernel) (by decide +kernel) (fun _ _ _ h => h) (by assumption) ?_ ?_
              rotate_left
              focus (intro w0 hSw; (try dsimp only at hSw); go_simp; (try (with_reducible rfl)); done)
              (try simp only [Act.put, List.getElem_toArray, List.getElem_cons_zero, List.getElem_cons_succ, List.setIfInBounds_toArray, List.set_cons_zero, List.set_cons_succ])
              refine takeNone (i := 3) (by decide +kernel) rfl (by rfl) (by decide +kernel) (by decide +kernel) (fun _ _ _ h => h) (by assumption) ?_
              (try simp only [Act.put, List.getElem_toArray, List.getElem_cons_zero, List.getElem_cons_succ, List.setIfInBounds_toArray, List.set_cons_zero, List.set_cons_succ])
              refine takeNone (i := 4) (by decide +kernel) rfl (by rfl) (by decide +kernel) (by decide +kernel) (fun _ _ _ h => h) (by assumption) ?_
              (try simp only [Act.put, List.getElem_toArray, List.getElem_cons_zero, List.getElem_cons_succ, List.setIfInBounds_toArray, List.set_cons_zero, List.set_cons_succ])
              refine takeNone (i := 5) (by decide +kernel) rfl (by rfl) (by decide +kernel) (by decide +kernel) (fun _ _ _ h => h) (by assumption) ?_
              (try simp only [Act.put, List.getElem_toArray, List.getElem_cons_zero, List.getElem_cons_succ, List.setIfInBounds_toArray, List.set_cons_zero, List.set_cons_succ])
              refine takeNone (i := 6) (by decide +kernel) rfl (by rfl) (by decide +kernel) (by decide +kernel) (fun _ _ _ h => h) (by assumption) ?_
              (try simp only [Act.put, List.getElem_toArray, List.getElem_cons_zero, List.getElem_cons_succ, List.setIfInBounds_toArray, List.set_cons_zero, List.set_cons_succ])
              refine takeNone (i := 7) (by decide +kernel) rfl (by rfl) (by decide +kernel) (by decide +kernel) (fun _ _ _ h => h) (by assumption) ?_
              (try simp only [Act.put, List.getElem_toArray, List.getElem_cons_zero, List.getElem_cons_succ, List.setIfInBounds_toArray, List.set_cons_zero, List.set_cons_succ])
              refine takeNone (i := 8) (by decide +kernel) rfl (by rfl) (by decide +kernel) (by decide +kernel) (fun _ _ _ h => h) (by assumption) ?_
              (try simp only [Act.put, List.getElem_toArray, List.getElem_cons_zero, List.getElem_cons_succ, List.setIfInBounds_toArray, List.set_cons_zero, List.set_cons_succ])
              refine takeNone (i := 9) (by decide +kernel) rfl (by rfl) (by decide +kernel) (by decide +kernel) (fun _ _ _ h => h) (by assumption) ?_
              (try simp only [Act.put, List.getElem_toArray, List.getElem_cons_zero, List.getElem_cons_succ, List.setIfInBounds_toArray, List.set_cons_zero, List.set_cons_succ])
              refine takeNone (i := 10) (by decide +kernel) rfl (by rfl) (by decide +kernel) (by decide +kernel) (fun _ _ _ h => h) (by assumption) ?_
              (try simp only [Act.put, List.getElem_toArray, List.getElem_cons_zero, List.getElem_cons_succ, List.setIfInBounds_toArray, List.set_cons_zero, List.set_cons_succ])
              refine takeNone (i := 11) (by decide +kernel) rfl (by rfl) (by decide +kernel) (by decide +kernel) (fun _ _ _ h => h) (by assumption) ?_
              (try simp only [Act.put, List.getElem_toArray, List.getElem_cons_zero, List.getElem_cons_succ, List.setIfInBounds_toArray, List.set_cons_zero, List.set_cons_succ])
              refine takeNone (i := 12) (by decide +kernel) rfl (by rfl) (by decide +kernel) (by decide +kernel) (fun _ _ _ h => h) (by assumption) ?_
              (try simp only [Act.put, List.getElem_toArray, List.getElem_cons_zero, List.getElem_cons_succ, List.setIfInBounds_toArray, List.set_cons_zero, List.set_cons_succ])
              refine takeNone (i := 13) (by decide +kernel) rfl (by rfl) (by decide +kernel) (by decide +kernel) (fun _ _ _ h => h) (by assumption) ?_
              (try simp only [Act.put, List.getElem_toArray, List.getElem_cons_zero, List.getElem_cons_succ, List.setIfInBounds_toArray, List.set_cons_zero, List.set_cons_succ])
              refine takeNone (i := 14) (by decide +kernel) rfl (by rfl) (by decide +kernel) (by decide +kernel) (fun _ _ _ h => h) (by assumption) ?_
              (try simp only [Act.put, List.getElem_toArray, List.getElem_cons_zero, List.getElem_cons_succ, List.setIfInBounds_toArray, List.set_cons_zero, List.set_cons_succ])
              refine takeSome (i := 15) (v := ?_) (by decide +kernel) rfl (by rfl) (by decide +kernel) (by decide +kernel) (fun _ _ _ h => h) (by assumption) ?_ ?_
              rotate_left
              focus (intro w0 hSw; (try dsimp only at hSw); go_simp; (try (with_reducible rfl)); done)
              (try simp only [Act.put, List.getElem_toArray, List.getElem_cons_zero, List.getElem_cons_succ, List.setIfInBounds_toArray, List.set_cons_zero, List.set_cons_succ])
              refine takeSome (i := 16) (v := ?_) (by decide +kernel) rfl (by rfl) (by decide +kernel) (by decide +kernel) (fun _ _ _ h => h) (by assumption) ?_ ?_
              rotate_left
              focus (intro w0 hSw; (try dsimp only at hSw); go_simp; (try (with_reducible rfl)); done)
              (try simp only [Act.put, List.getElem_toArray, List.getElem_cons_zero, List.getElem_cons_succ, List.setIfInBounds_toArray, List.set_cons_zero, List.set_cons_succ])
              refine takeSome (i := 17) (v := ?_) (by decide +kernel) rfl (by rfl) (by decide +kernel) (by decide +kernel) (fun _ _ _ h => h) (by assumption) ?_ ?_
              rotate_left
              focus (intro w0 hSw; (try dsimp only at hSw); go_simp; (try (with_reducible rfl)); done)
              (try simp only [Act.put, List.getElem_toArray, List.getElem_cons_zero, List.getElem_cons_succ, List.setIfInBounds_toArray, List.set_cons_zero, List.set_cons_succ])
              refine takeSome (i := 18) (v := ?_) (by decide +kernel) rfl (by rfl) (by decide +kernel) (by decide +kernel) (fun _ _ _ h => h) (by assumption) ?_ ?_
              rotate_left
              focus (intro w0 hSw; (try dsimp only at hSw); go_simp; (try (with_reducible rfl)); done)
              (try simp only [Act.put, List.getElem_toArray, List.getElem_cons_zero, List.getElem_cons_succ, List.setIfInBounds_toArray, List.set_cons_zero, List.set_cons_succ])
              refine takeSome (i := 19) (v := ?_) (by decide +kernel) rfl (by rfl) (by decide +kernel) (by decide +kernel) (fun _ _ _ h => h) (by assumption) ?_ ?_
              rotate_left
              focus (intro w0 hSw; (try dsimp only at hSw); go_simp; (try (with_reducible rfl)); done)
              (try simp only [Act.put, List.getElem_toArray, List.getElem_cons_zero, List.getElem_cons_succ, List.setIfInBounds_toArray, List.set_cons_zero, List.set_cons_succ])
              refine takeSome (i := 20) (v := ?_) (by decide +kernel) rfl (by rfl) (by decide +kernel) (by decide +kernel) (fun _ _ _ h => h) (by assumption) ?_ ?_
              rotate_left
              focus (intro w0 hSw; (try dsimp only at hSw); go_simp; (try (with_reducible rfl)); done)
              (try simp only [Act.put, List.getElem_toArray, List.getElem_cons_zero, List.getElem_cons_succ, List.setIfInBounds_toArray, List.set_cons_zero, List.set_cons_succ])
              refine takeSome (i := 21) (v := ?_) (by decide +kernel) rfl (by rfl) (by decide +kernel) (by decide +kernel) (fun _ _ _ h => h) (by assumption) ?_ ?_
              rotate_left
              focus (intro w0 hSw; (try dsimp only at hSw); go_simp; (try (with_reducible rfl)); done)
              (try simp only [Act.put, List.getElem_toArray, List.getElem_cons_zero, List.getElem_cons_succ, List.setIfInBounds_toArray, List.set_cons_zero, List.set_cons_succ])
              refine takeSome (i := 22) (v := ?_) (by decide +kernel) rfl (by rfl) (by decide +kernel) (by decide +kernel) (fun _ _ _ h => h) (by assumption) ?_ ?_
              rotate_left
              focus (intro w0 hSw; (try dsimp only at hSw); go_simp; (try (with_reducible rfl)); done)
              (try simp only [Act.put, List.getElem_toArray, List.getElem_cons_zero, List.getElem_cons_succ, List.setIfInBounds_toArray, List.set_cons_zero, List.set_cons_succ])
              refine takeSome (i := 23) (v := ?_) (by decide +kernel) rfl (by rfl) (by decide +kernel) (by decide +kernel) (fun _ _ _ h => h) (by assumption) ?_ ?_
              rotate_left
              focus (intro w0 hSw; (try dsimp only at hSw); go_simp; (try (with_reducible rfl)); done)
              (try simp only [Act.put, List.getElem_toArray, List.getElem_cons_zero, List.getElem_cons_succ, List.setIfInBounds_toArray, List.set_cons_zero, List.set_cons_succ])
              refine takeSome (i := 24) (v := ?_) (by decide +kernel) rfl (by rfl) (by decide +kernel) (by decide +kernel) (fun _ _ _ h => h) (by assumption) ?_ ?_
              rotate_left
              focus (intro w0 hSw; (try dsimp only at hSw); go_simp; (try (with_reducible rfl)); done)
              (try simp only [Act.put, List.getElem_toArray, List.getElem_cons_zero, List.getElem_cons_succ, List.setIfInBounds_toArray, List.set_cons_zero, List.set_cons_succ])
              refine wpAnyH_ready (rs := [25]) (by decide +kernel) (by simp) ?_
              refine AllReadyH.cons rfl (fun K hK => ?_) AllReadyH.nil
              (try simp only [List.getElem_toArray, List.getElem_cons_zero, List.getElem_cons_succ])
              go_simp
              go_at_call 21; refine (HSP.out _ hz).mono ?_; rintro e' W14 ⟨rfl, hB⟩; have hz2 := hz.on hB; clear hB
              refine hK.out _ _ ?_ (fun hHeld => ?_)
              focus ((try dsimp only); exact HKA.out _ hz2; done)
              clear hK K
              (try simp only [Act.put, List.getElem_toArray, List.getElem_cons_zero, List.getElem_cons_succ, List.setIfInBounds_toArray, List.set_cons_zero, List.set_cons_succ])
              refine takeSome (i := 26) (v := ?_) (by decide +kernel) rfl (by rfl) (by decide +kernel) (by decide +kernel) (fun _ _ _ h => h) (by assumption) ?_ ?_
              rotate_left
              focus (intro w0 hSw; (try dsimp only at hSw); go_simp; (try (with_reducible rfl)); done)
              (try simp only [Act.put, List.getElem_toArray, List.getElem_cons_zero, List.getElem_cons_succ, List.setIfInBounds_toArray, List.set_cons_zero, List.set_cons_succ])
              refine takeSome (i := 27) (v := ?_) (by decide +kernel) rfl (by rfl) (by decide +kernel) (by decide +kernel) (fun _ _ _ h => h) (by assumption) ?_ ?_
              rotate_left
              focus (intro w0 hSw; (try dsimp only at hSw); go_simp; (try (with_reducible rfl)); done)
              (try simp only [Act.put, List.getElem_toArray, List.getElem_cons_zero, List.getElem_cons_succ, List.setIfInBounds_toArray, List.set_cons_zero, List.set_cons_succ])
              refine takeSome (i := 28) (v := ?_) (by decide +kernel) rfl (by rfl) (by decide +kernel) (by decide +kernel) (fun _ _ _ h => h) (by assumption) ?_ ?_
              rotate_left
              focus (intro w0 hSw; (try dsimp only at hSw); go_simp; (try (with_reducible rfl)); done)
              (try simp only [Act.put, List.getElem_toArray, List.getElem_cons_zero, List.getElem_cons_succ, List.setIfInBounds_toArray, List.set_cons_zero, List.set_cons_succ])
              refine takeSome (i := 29) (v := ?_) (by decide +kernel) rfl (by rfl) (by decide +kernel) (by decide +kernel) (fun _ _ _ h => h) (by assumption) ?_ ?_
              rotate_left
              focus (intro w0 hSw; (try dsimp only at hSw); go_simp; (try (with_reducible rfl)); done)
              (try simp only [Act.put, List.getElem_toArray, List.getElem_cons_zero, List.getElem_cons_succ, List.setIfInBounds_toArray, List.set_cons_zero, List.set_cons_succ])
              refine wpAnyH_done (by decide +kernel) ?_ _
              go_wp2_with fail
              go_meet
              exact ⟨rfl, hz2⟩
            · obtain ⟨k, hk, rfl, ek⟩ := found_at HCP.out HPL.out hx hid
              subst hfp hfe
              obtain ⟨ad, hA, -⟩ := (HPR.out _ hf13.b).at hk
              have HD := Lib.hid (fun W (hB : Below W13.heap.size W13 W) => Prs.cells hA (HPR.out _ hf13.b) (List.getElem?_eq_getElem hk) hB)
              subst hA
              rw [ek] at HD
              have HSP := Lib.hid (fun W (h : Fnd w W9 [(g9, #[.int .i64 x.par.id, .slice A9 x.par.ring.length c9, .string x.par.own], 34), (g2, #[.int .i64 e.1.1, .int .i64 e.1.2, .int .i64 e.2.1, .int .i64 e.2.2], 30), (g1, #[.int .i64 p.1, .int .i64 p.2], 28), (g0, #[.slice Ao o.length co, .slice (some ad) l.length cp], 26)] W) => ref_samePar x.par.id x.par.ring x.par.own A9 c9 x.par.id x.par.ring x.par.own x.A x.cap (by have := (normP_small (check_ring HCP.out hx)).2.1; unfold maxLen; omega) W (HPT.out W h.2) ((HPR.out W h.b).2 x hx).1)
              rw [show decide ((⟨x.par.id, x.par.ring, x.par.own⟩ : Par) = ⟨x.par.id, x.par.ring, x.par.own⟩) = true from decide_eq_true rfl] at HSP
              have HKA := Lib.hid (fun W (h : Fnd w W9 [(g9, #[.int .i64 x.par.id, .slice A9 x.par.ring.length c9, .string x.par.own], 34), (g2, #[.int .i64 e.1.1, .int .i64 e.1.2, .int .i64 e.2.1, .int .i64 e.2.2], 30), (g1, #[.int .i64 p.1, .int .i64 p.2], 28), (g0, #[.slice Ao o.length co, .slice (some ad) l.length cp], 26)] W) (hb : Below W13.heap.size W13 W) => (show (W.cell? ⟨g9, 0, none⟩ = some (.int .i64 x.par.id) ∧ W.cell? ⟨g9, 1, none⟩ = some (.slice A9 x.par.ring.length c9) ∧ W.cell? ⟨g9, 2, none⟩ = some (.string x.par.own)) ∧ (W.cell? ⟨g0, 0, none⟩ = some (.slice Ao o.length co) ∧ W.cell? ⟨g0, 1, none⟩ = some (.slice (some ad) l.length cp)) ∧ W.cell? (ad.add (k * 3)) = some (.int .i64 x.par.id) ∧ W.cell? ⟨(ad.add (k * 3)).block, (ad.add (k * 3)).off + 1, none⟩ = some (.slice x.A x.par.ring.length x.cap) ∧ W.cell? ⟨(ad.add (k * 3)).block, (ad.add (k * 3)).off + 2, none⟩ = some (.string x.par.own) from ⟨HKX.out W h, h.1.pt (.tail _ (.tail _ (.tail _ (.head _)))), HD.out W hb⟩))
              have hz := hf13.drew
              have hy : Below W13.heap.size W13 W13.drew := (Below.refl _ W13).drew
              have b0 : (0 : Int) ≤ (k : Int) := by omega
              have b1 : (k : Int) < (l.length : Int) := by omega
              have b2 : ¬ (k : Int) < 0 := by omega
              clear HKX HPT HPR HGD HPL HCP hf13 HD hx hid ek
              refine wp_region_held_drew (S := fun W => (W.cell? ⟨g9, 0, none⟩ = some (.int .i64 x.par.id) ∧ W.cell? ⟨g9, 1, none⟩ = some (.slice A9 x.par.ring.length c9) ∧ W.cell? ⟨g9, 2, none⟩ = some (.string x.par.own)) ∧ (W.cell? ⟨g0, 0, none⟩ = some (.slice Ao o.length co) ∧ W.cell? ⟨g0, 1, none⟩ = some (.slice (some ad) l.length cp)) ∧ W.cell? (ad.add (k * 3)) = some (.int .i64 x.par.id) ∧ W.cell? ⟨(ad.add (k * 3)).block, (ad.add (k * 3)).off + 1, none⟩ = some (.slice x.A x.par.ring.length x.cap) ∧ W.cell? ⟨(ad.add (k * 3)).block, (ad.add (k * 3)).off + 2, none⟩ = some (.string x.par.own)) (by kernel_rfl) ?_ (fun hHeld => ?_)
              · (try dsimp only)
                exact HKA.out _ hz hy
              refine takeSome (i := 0) (v := ?_) (by decide +kernel) rfl (by rfl) (by decide +kernel) (by decide +kernel) (fun _ _ _ h => h) (by assumption) ?_ ?_
              rotate_left
              focus (intro w0 hSw; (try dsimp only at hSw); go_simp; (try (with_reducible rfl)); done)
              (try simp only [Act.put, List.getElem_toArray, List.getElem_cons_zero, List.setIfInBounds_toArray, List.set_cons_zero, List.set_cons_succ])
              refine takeSome (i := 1) (v := ?_) (by decide +kernel) rfl (by rfl) (by decide +kernel) (by decide +kernel) (fun _ _ _ h => h) (by assumption) ?_ ?_
              rotate_left
              focus (intro w0 hSw; (try dsimp only at hSw); go_simp; (try (with_reducible rfl)); done)
              (try simp only [Act.put, List.getElem_toArray, List.getElem_cons_zero, List.getElem_cons_succ, List.setIfInBounds_toArray, List.set_cons_zero, List.set_cons_succ])
              refine takeSome (i := 2) (v := ?_) (by decide +kernel) rfl (by rfl) (by decide +kernel) (by decide +kernel) (fun _ _ _ h => h) (by assumption) ?_ ?_
              rotate_left
              focus (intro w0 hSw; (try dsimp only at hSw); go_simp; (try (with_reducible rfl)); done)
              (try simp only [Act.put, List.getElem_toArray, List.getElem_cons_zero, List.getElem_cons_succ, List.setIfInBounds_toArray, List.set_cons_zero, List.set_cons_succ])
              refine takeSome (i := 3) (v := ?_) (by decide +kernel) rfl (by rfl) (by decide +kernel) (by decide +kernel) (fun _ _ _ h => h) (by assumption) ?_ ?_
              rotate_left
              focus (intro w0 hSw; (try dsimp only at hSw); go_simp; (try (with_reducible rfl)); done)
              (try simp only [Act.put, List.getElem_toArray, List.getElem_cons_zero, List.getElem_cons_succ, List.setIfInBounds_toArray, List.set_cons_zero, List.set_cons_succ])
              refine takeSome (i := 4) (v := ?_) (by decide +kernel) rfl (by rfl) (by decide +kernel) (by decide +kernel) (fun _ _ _ h => h) (by assumption) ?_ ?_
              rotate_left
              focus (intro w0 hSw; (try dsimp only at hSw); go_simp; (try (with_reducible rfl)); done)
              (try simp only [Act.put, List.getElem_toArray, List.getElem_cons_zero, List.getElem_cons_succ, List.setIfInBounds_toArray, List.set_cons_zero, List.set_cons_succ])
              refine takeSome (i := 5) (v := ?_) (by decide +kernel) rfl (by rfl) (by decide +kernel) (by decide +kernel) (fun _ _ _ h => h) (by assumption) ?_ ?_
              rotate_left
              focus (intro w0 hSw; (try dsimp only at hSw); go_simp; (try (with_reducible rfl)); done)
              (try simp only [Act.put, List.getElem_toArray, List.getElem_cons_zero, List.getElem_cons_succ, List.setIfInBounds_toArray, List.set_cons_zero, List.set_cons_succ])
              refine takeSome (i := 6) (v := ?_) (by decide +kernel) rfl (by rfl) (by decide +kernel) (by decide +kernel) (fun _ _ _ h => h) (by assumption) ?_ ?_
              rotate_left
              focus (intro w0 hSw; (try dsimp only at hSw); go_simp; (try (with_reducible rfl)); done)
              (try simp only [Act.put, List.getElem_toArray, List.getElem_cons_zero, List.getElem_cons_succ, List.setIfInBounds_toArray, List.set_cons_zero, List.set_cons_succ])
              refine takeSome (i := 7) (v := ?_) (by decide +kernel) rfl (by rfl) (by decide +kernel) (by decide +kernel) (fun _ _ _ h => h) (by assumption) ?_ ?_
              rotate_left
              focus (intro w0 hSw; (try dsimp only at hSw); go_simp; (try (with_reducible rfl)); done)
              (try simp only [Act.put, List.getElem_toArray, List.getElem_cons_zero, List.getElem_cons_succ, List.setIfInBounds_toArray, List.set_cons_zero, List.set_cons_succ])
              refine takeSome (i := 8) (v := ?_) (by decide +kernel) rfl (by rfl) (by decide +kernel) (by decide +kernel) (fun _ _ _ h => h) (by assumption) ?_ ?_
              rotate_left
              focus (intro w0 hSw; (try dsimp only at hSw); go_simp; (try (with_reducible rfl)); done)
              (try simp only [Act.put, List.getElem_toArray, List.getElem_cons_zero, List.getElem_cons_succ, List.setIfInBounds_toArray, List.set_cons_zero, List.set_cons_succ])
              refine takeSome (i := 9) (v := ?_) (by decide +kernel) rfl (by rfl) (by decide +kernel) (by decide +kernel) (fun _ _ _ h => h) (by assumption) ?_ ?_
              rotate_left
              focus (intro w0 hSw; (try dsimp only at hSw); go_simp; (try (with_reducible rfl)); done)
              (try simp only [Act.put, List.getElem_toArray, List.getElem_cons_zero, List.getElem_cons_succ, List.setIfInBounds_toArray, List.set_cons_zero, List.set_cons_succ])
              refine takeSome (i := 10) (v := ?_) (by decide +kernel) rfl (by rfl) (by decide +kernel) (by decide +kernel) (fun _ _ _ h => h) (by assumption) ?_ ?_
              rotate_left
              focus (intro w0 hSw; (try dsimp only at hSw); go_simp; (try (with_reducible rfl)); done)
              (try simp only [Act.put, List.getElem_toArray, List.getElem_cons_zero, List.getElem_cons_succ, List.setIfInBounds_toArray, List.set_cons_zero, List.set_cons_succ])
              refine takeSome (i := 11) (v := ?_) (by decide +kernel) rfl (by rfl) (by decide +kernel) (by decide +kernel) (fun _ _ _ h => h) (by assumption) ?_ ?_
              rotate_left
              focus (intro w0 hSw; (try dsimp only at hSw); go_simp; (try (with_reducible rfl)); done)
              (try simp only [Act.put, List.getElem_toArray, List.getElem_cons_zero, List.getElem_cons_succ, List.setIfInBounds_toArray, List.set_cons_zero, List.set_cons_succ])
              refine wpAnyH_ready (rs := [12]) (by decide +kernel) (by simp) ?_
              refine AllReadyH.cons rfl (fun K hK => ?_) AllReadyH.nil
              (try simp only [List.getElem_toArray, List.getElem_cons_zero, List.getElem_cons_succ])
              go_simp
              go_at_call 21; refine (HSP.out _ hz).mono ?_; rintro e' W14 ⟨rfl, hB⟩; have hz2 := hz.on hB; have hy2 := hy.trans (hB.mono hy.size); clear hB
              refine hK.out _ _ ?_ (fun hHeld => ?_)
              focus ((try dsimp only); exact HKA.out _ hz2 hy2; done)
              clear hK K
              (try simp only [Act.put, List.getElem_toArray, List.getElem_cons_zero, List.getElem_cons_succ, List.setIfInBounds_toArray, List.set_cons_zero, List.set_cons_succ])
              refine takeSome (i := 13) (v := ?_) (by decide +kernel) rfl (by rfl) (by decide +kernel) (by decide +kernel) (fun _ _ _ h => h) (by assumption) ?_ ?_
              rotate_left
              focus (intro w0 hSw; (try dsimp only at hSw); go_simp; (try (with_reducible rfl)); done)
              (try simp only [Act.put, List.getElem_toArray, List.getElem_cons_zero, List.getElem_cons_succ, List.setIfInBounds_toArray, List.set_cons_zero, List.set_cons_succ])
              refine takeSome (i := 14) (v := ?_) (by decide +kernel) rfl (by rfl) (by decide +kernel) (by decide +kernel) (fun _ _ _ h => h) (by assumption) ?_ ?_
              rotate_left
              focus (intro w0 hSw; (try dsimp only at hSw); go_simp; (try (with_reducible rfl)); done)
              (try simp only [Act.put, List.getElem_toArray, List.getElem_cons_zero, List.getElem_cons_succ, List.setIfInBounds_toArray, List.set_cons_zero, List.set_cons_succ])
              refine takeSome (i := 15) (v := ?_) (by decide +kernel) rfl (by rfl) (by decide +kernel) (by decide +kernel) (fun _ _ _ h => h) (by assumption) ?_ ?_
              rotate_left
              focus (intro w0 hSw; (try dsimp only at hSw); go_simp; (try (with_reducible rfl)); done)
              (try simp only [Act.put, List.getElem_toArray, List.getElem_cons_zero, List.getElem_cons_succ, List.setIfInBounds_toArray, List.set_cons_zero, List.set_cons_succ])
              refine takeSome (i := 16) (v := ?_) (by decide +kernel) rfl (by rfl) (by decide +kernel) (by decide +kernel) (fun _ _ _ h => h) (by assumption) ?_ ?_
              rotate_left
              focus (intro w0 hSw; (try dsimp only at hSw); go_simp; (try (with_reducible rfl)); done)
              (try simp only [Act.put, List.getElem_toArray, List.getElem_cons_zero, List.getElem_cons_succ, List.setIfInBounds_toArray, List.set_cons_zero, List.set_cons_succ])
              refine takeSome (i := 17) (v := ?_) (by decide +kernel) rfl (by rfl) (by decide +kernel) (by decide +kernel) (fun _ _ _ h => h) (by assumption) ?_ ?_
              rotate_left
              focus (intro w0 hSw; (try dsimp only at hSw); go_simp; (try (with_reducible rfl)); done)
              (try simp only [Act.put, List.getElem_toArray, List.getElem_cons_zero, List.getElem_cons_succ, List.setIfInBounds_toArray, List.set_cons_zero, List.set_cons_succ])
              refine takeSome (i := 18) (v := ?_) (by decide +kernel) rfl (by rfl) (by decide +kernel) (by decide +kernel) (fun _ _ _ h => h) (by assumption) ?_ ?_
              rotate_left
              focus (intro w0 hSw; (try dsimp only at hSw); go_simp; (try (with_reducible rfl)); done)
              (try simp only [Act.put, List.getElem_toArray, List.getElem_cons_zero, List.getElem_cons_succ, List.setIfInBounds_toArray, List.set_cons_zero, List.set_cons_succ])
              refine takeSome (i := 19) (v := ?_) (by decide +kernel) rfl (by rfl) (by decide +kernel) (by decide +kernel) (fun _ _ _ h => h) (by assumption) ?_ ?_
              rotate_left
              focus (intro w0 hSw; (try dsimp only at hSw); go_simp; (try (with_reducible rfl)); done)
              (try simp only [Act.put, List.getElem_toArray, List.getElem_cons_zero, List.getElem_cons_succ, List.setIfInBounds_toArray, List.set_cons_zero, List.set_cons_succ])
              refine takeNone (i := 20) (by decide +kernel) rfl (by rfl) (by decide +kernel) (by decide +kernel) (fun _ _ _ h => h) (by assumption) ?_
              (try simp only [Act.put, List.getElem_toArray, List.getElem_cons_zero, List.getElem_cons_succ, List.setIfInBounds_toArray, List.set_cons_zero, List.set_cons_succ])
              refine takeNone (i := 21) (by decide +kernel) rfl (by rfl) (by decide +kernel) (by decide +kernel) (fun _ _ _ h => h) (by assumption) ?_
              (try simp only [Act.put, List.getElem_toArray, List.getElem_cons_zero, List.getElem_cons_succ, List.setIfInBounds_toArray, List.set_cons_zero, List.set_cons_succ])
              refine takeNone (i := 22) (by decide +kernel) rfl (by rfl) (by decide +kernel) (by decide +kernel) (fun _ _ _ h => h) (by assumption) ?_
              (try simp only [Act.put, List.getElem_toArray, List.getElem_cons_zero, List.getElem_cons_succ, List.setIfInBounds_toArray, List.set_cons_zero, List.set_cons_succ])
              refine takeNone (i := 23) (by decide +kernel) rfl (by rfl) (by decide +kernel) (by decide +kernel) (fun _ _ _ h => h) (by assumption) ?_
              (try simp only [Act.put, List.getElem_toArray, List.getElem_cons_zero, List.getElem_cons_succ, List.setIfInBounds_toArray, List.set_cons_zero, List.set_cons_succ])
              refine takeNone (i := 24) (by decide +kernel) rfl (by rfl) (by decide +kernel) (by decide +kernel) (fun _ _ _ h => h) (by assumption) ?_
              (try simp only [Act.put, List.getElem_toArray, List.getElem_cons_zero, List.getElem_cons_succ, List.setIfInBounds_toArray, List.set_cons_zero, List.set_cons_succ])
              refine takeNone (i := 25) (by decide +kernel) rfl (by rfl) (by decide +kernel) (by decide +kernel) (fun _ _ _ h => h) (by assumption) ?_
              (try simp only [Act.put, List.getElem_toArray, List.getElem_cons_zero, List.getElem_cons_succ, List.setIfInBounds_toArray, List.set_cons_zero, List.set_cons_succ])
              refine takeNone (i := 26) (by decide +kernel) rfl (by rfl) (by decide +kernel) (by decide +kernel) (fun _ _ _ h => h) (by assumption) ?_
              (try simp only [Act.put, List.getElem_toArray, List.getElem_cons_zero, List.getElem_cons_succ, List.setIfInBounds_toArray, List.set_cons_zero, List.set_cons_succ])
              refine takeNone (i := 27) (by decide +kernel) rfl (by rfl) (by decide +kernel) (by decide +kernel) (fun _ _ _ h => h) (by assumption) ?_
              (try simp only [Act.put, List.getElem_toArray, List.getElem_cons_zero, List.getElem_cons_succ, List.setIfInBounds_toArray, List.set_cons_zero, List.set_cons_succ])
              refine takeSome (i := 28) (v := ?_) (by decide +kernel) rfl (by rfl) (by decide +kernel) (by decide +kernel) (fun _ _ _ h => h) (by assumption) ?_ ?_
              rotate_left
              focus (intro w0 hSw; (try dsimp only at hSw); go_simp; (try (with_reducible rfl)); done)
              (try simp only [Act.put, List.getElem_toArray, List.getElem_cons_zero, List.getElem_cons_succ, List.setIfInBounds_toArray, List.set_cons_zero, List.set_cons_succ])
              refine takeSome (i := 29) (v := ?_) (by decide +kernel) rfl (by rfl) (by decide +kernel) (by decide +kernel) (fun _ _ _ h => h) (by assumption) ?_ ?_
              rotate_left
              focus (intro w0 hSw; (try dsimp only at hSw); go_simp; (try (with_reducible rfl)); done)
              (try simp only [Act.put, List.getElem_toArray, List.getElem_cons_zero, List.getElem_cons_succ, List.setIfInBounds_toArray, List.set_cons_zero, List.set_cons_succ])
              refine wpAnyH_done (by decide +kernel) ?_ _
              go_wp2_with fail
              go_meet
              exact ⟨rfl, hz2⟩
          case rest =>
            obtain ⟨rfl, hf14⟩ := hcut
            clear hf13 HF12 HPL HGD HPT HKX HCP
            have HF14 := Lib.hid hf14
            obtain ⟨⟨c0, c1⟩, -⟩ := HKE.out _ hf14
            obtain ⟨p0, p1⟩ := hf14.1.pt (.tail _ (.tail _ (.head _)))
            clear hf14
            have HG1 := Lib.hid (fun t w W h => rgood_lone p 1 t w W h)
            go_wp2_with fail
            go_at_call 23
            refine (HG1.out _ _ _ rfl).mono ?_
            rintro e' W15 ⟨rfl, hB⟩
            have hf15 := (HF14.out.alloc _).on hB
            clear c0 c1 p0 p1 hB HG1
            go_upto_if 109 with (fail)
            go_cut [114] (fun _ wx => Fnd w W9 [(g9, #[.int .i64 fp.id, .slice A9 fp.ring.length c9, .string fp.own], 34), (g2, #[.int .i64 e.1.1, .int .i64 e.1.2, .int .i64 e.2.1, .int .i64 e.2.2], 30), (g1, #[.int .i64 p.1, .int .i64 p.2], 28), (g0, #[.slice Ao o.length co, .slice Ap l.length cp], 26)] wx)
            case first =>
              have HF15 := Lib.hid hf15
              cases hg : gd p
              · obtain ⟨q1, q2⟩ := HCN2.out hg
                subst q1 q2
                clear hg HCN2 HCN3 HLS HPR HKE HRK hf15
                go_wp2_with fail
                go_meet
                exact HF15.out
              · obtain ⟨q1, q2⟩ := HCN3.out hg
                subst q1 q2
                obtain ⟨⟨c0, c1⟩, -⟩ := HKE.out _ hf15
                obtain ⟨p0, p1⟩ := hf15.1.pt (.tail _ (.tail _ (.head _)))
                have HRX := Lib.hid (HRK.out _ hf15.b HL1.out)
                clear hg HCN2 HCN3 HLS HPR HKE HRK hf15
                generalize cornB l p = cb at *
                have e1 : (cb != cb) = false := by simp
                go_wp2_with (go_at_call 24; go_must (refine HRX.out.mono ?_; rintro e' W16 ⟨rfl, hB⟩; have HF16 := Lib.hid (HF15.out.on hB); clear hB))
                go_meet
                exact HF16.out
            case rest =>
              have hf16 := hcut
              clear hcut hf15 HF14 HCN2 HCN3 HRK
              go_wp2_with fail
              go_loopg [16, 17] l.length (fun g v i wr => ∃ k : Nat, k ≤ l.length ∧ g = l.length - k ∧ i = .int .i64 k ∧ v = .int .i64 (whoI l e k) ∧ Fnd w W9 [(g9, #[.int .i64 fp.id, .slice A9 fp.ring.length c9, .string fp.own], 34), (g2, #[.int .i64 e.1.1, .int .i64 e.1.2, .int .i64 e.2.1, .int .i64 e.2.2], 30), (g1, #[.int .i64 p.1, .int .i64 p.2], 28), (g0, #[.slice Ao o.length co, .slice Ap l.length cp], 26)] wr)
              case atStart => exact ⟨0, Nat.zero_le _, rfl, rfl, rfl, hf16⟩
              case round =>
                clear hf16
                obtain ⟨k, hk, hgk, rfl, rfl, hf⟩ := hrel
                have HGK := Lib.hid hgk
                clear hgk
                have HF := Lib.hid hf
                obtain ⟨⟨c0, c1⟩, u1, u2, u3, u4⟩ := HKE.out _ hf
                by_cases hlt : k < l.length
                · have hw := HPR.out _ hf.b
                  obtain ⟨ad, hA, -, d0, d1, d2⟩ := hw.at hlt
                  have hsz := (hw.2 l[k] (List.getElem_mem hlt)).2.2
                  have hx : l[k]? = some l[k] := List.getElem?_eq_getElem hlt
                  have HD := Lib.hid (fun W (hb : Below w.heap.size w W) => Prs.cells hA (HPR.out W hb) hx (Below.refl _ W))
                  have HYES := Lib.hid (fun h => whoI_yes (e := e) hx h)
                  have HNO := Lib.hid (fun h => whoI_no (e := e) hx h)
                  have HEG := Lib.hid (fun W (hb : Below w.heap.size w W) (h4 : l[k].par.ring.length ≤ 1000000) => ref_edges l[k].par.ring l[k].A l[k].cap h4 W ((HPR.out W hb).2 l[k] (List.getElem_mem hlt)).1)
                  have HSZ := Lib.hid (HSML.out _ (List.getElem_mem hlt))
                  have HEL := Lib.hid (edg_len l[k].par.ring)
                  have b0 : (0 : Int) ≤ (k : Int) := by omega
                  have b1 : (k : Int) < (l.length : Int) := by omega
                  have b9 : (l.length : Int) ≤ 1000000 := by have := HL1.out; omega
                  clear hw hsz hx
                  subst hA
                  generalize l[k] = x at *
                  generalize whoI l e k = wk at *
                  have HPC := Lib.hid (fun A cap W (hr : Items W W.heap.size A encG (edg x.par.ring)) => ref_place (edg x.par.ring) A cap e (by rw [HEL.out]; exact HSZ.out) W hr)
                  generalize edg x.par.ring = es at *
                  go_upto_region 20 with (fail)
                  go_cut [140] (fun s wx => ∃ t : Bool, s = .bool t ∧ (t = true ↔ e ∈ es) ∧ Fnd w W9 [(g9, #[.int .i64 fp.id, .slice A9 fp.ring.length c9, .string fp.own], 34), (g2, #[.int .i64 e.1.1, .int .i64 e.1.2, .int .i64 e.2.1, .int .i64 e.2.2], 30), (g1, #[.int .i64 p.1, .int .i64 p.2], 28), (g0, #[.slice Ao o.length co, .slice (some ad) l.length cp], 26)] wx)
                  case first =>
                    have hz := HF.out
                    have HKB := Lib.hid (fun W (h : Fnd w W9 [(g9, #[.int .i64 fp.id, .slice A9 fp.ring.length c9, .string fp.own], 34), (g2, #[.int .i64 e.1.1, .int .i64 e.1.2, .int .i64 e.2.1, .int .i64 e.2.2], 30), (g1, #[.int .i64 p.1, .int .i64 p.2], 28), (g0, #[.slice Ao o.length co, .slice (some ad) l.length cp], 26)] W) => (show (W.cell? ⟨g0, 0, none⟩ = some (.slice Ao o.length co) ∧ W.cell? ⟨g0, 1, none⟩ = some (.slice (some ad) l.length cp)) ∧ (W.cell? ⟨g2, 0, none⟩ = some (.int .i64 e.1.1) ∧ W.cell? ⟨g2, 1, none⟩ = some (.int .i64 e.1.2) ∧ W.cell? ⟨g2, 2, none⟩ = some (.int .i64 e.2.1) ∧ W.cell? ⟨g2, 3, none⟩ = some (.int .i64 e.2.2)) ∧ W.cell? ⟨(ad.add (k * 3)).block, (ad.add (k * 3)).off + 1, none⟩ = some (.slice x.A x.par.ring.length x.cap) from ⟨(HKE.out W h).1, (HKE.out W h).2, (HD.out W h.b).2.1⟩))
                    clear HKE HD HYES HNO HPR HLS c0 c1 u1 u2 u3 u4 d0 d1 d2 hf HGK HF HEL
                    go_region_held3 (fun W => (W.cell? ⟨g0, 0, none⟩ = some (.slice Ao o.length co) ∧ W.cell? ⟨g0, 1, none⟩ = some (.slice (some ad) l.length cp)) ∧ (W.cell? ⟨g2, 0, none⟩ = some (.int .i64 e.1.1) ∧ W.cell? ⟨g2, 1, none⟩ = some (.int .i64 e.1.2) ∧ W.cell? ⟨g2, 2, none⟩ = some (.int .i64 e.2.1) ∧ W.cell? ⟨g2, 3, none⟩ = some (.int .i64 e.2.2)) ∧ W.cell? ⟨(ad.add (k * 3)).block, (ad.add (k * 3)).off + 1, none⟩ = some (.slice x.A x.par.ring.length x.cap)) (first | exact HKB.out _ (by assumption) | exact HKB.out _ (Fnd.drew (by assumption))) ((first
                      | (go_at_call 26; (with_reducible refine (HEG.out _ (Fnd.b (by first | assumption | exact Fnd.drew (by assumption))) HSZ.out).mono ?_); rintro e' W6 ⟨v, rfl, hv⟩; obtain ⟨A6, c6, rfl, hi6, -⟩ := hv.items; have HS6 := Fnd.on (by first | assumption | exact Fnd.drew (by assumption)) hv.1; clear hv)
                      | (go_at_call 25; (with_reducible refine (HPC.out _ _ _ (by assumption)).mono ?_); rintro e' W7 ⟨n, rfl, hn, hB7⟩; have HPS := Lib.hid hn.pos; clear hn; have HS7 := Fnd.on (by first | assumption | exact Fnd.drew (by assumption)) hB7)))
                    go_wp2_with fail
                    go_meet
                    exact ⟨_, rfl, by rw [decide_eq_true_eq]; exact HPS.out, HS7⟩
                  case rest =>
                    obtain ⟨t, rfl, ht, hf7⟩ := hcut
                    have HF7 := Lib.hid hf7
                    clear c0 c1 u1 u2 u3 u4 d0 d1 d2 hf HF HEG HPC HSZ HEL
                    obtain ⟨⟨c0, c1⟩, -⟩ := HKE.out _ hf7
                    obtain ⟨d0, -, -⟩ := HD.out _ hf7.b
                    clear hf7 HD
                    cases t
                    · have HW := Lib.hid (HNO.out (fun h => by have := ht.2 h; cases this))
                      clear ht HYES HNO
                      go_wp2_with fail
                      go_roundg (l.length - (k + 1))
                      case measure => have := HGK.out; omega
                      case rel => exact ⟨k + 1, by omega, rfl, by go_num, by rw [HW.out], HF7.out⟩
                    · have HW := Lib.hid (HYES.out (ht.1 rfl))
                      clear ht HYES HNO
                      go_wp2_with fail
                      go_roundg (l.length - (k + 1))
                      case measure => have := HGK.out; omega
                      case rel => exact ⟨k + 1, by omega, rfl, by go_num, by rw [HW.out], HF7.out⟩
                · obtain rfl : k = l.length := by omega
                  have HB9 := Lib.hid hf.b
                  obtain ⟨hlv, hcs⟩ := HLS.out
                  clear hf HF HPR HKE HLS u1 u2 u3 u4
                  generalize whoI l e l.length = who at *
                  subst hlv
                  rcases hcs with ⟨rfl, rfl⟩ | ⟨h1, rfl⟩
                  · go_wp2
                    go_ret
                    exact ⟨rfl, HB9.out⟩
                  · have e1 : (lv == lv) = true := by simp
                    have e2 : (0 : Int) < lv := by omega
                    clear h1
                    go_wp2
                    go_ret
                    exact ⟨rfl, HB9.out⟩
end Go.Proofs.YtbcmnhbpomjinaaGreat
