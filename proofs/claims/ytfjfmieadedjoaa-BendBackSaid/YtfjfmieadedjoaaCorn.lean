/- The program's Corner: whether a point is a corner. -/
import Derived.Test.YtfjfmieadedjoaaLeft
import Derived.Test.YtfjfmieadedjoaaPtLib
namespace Go.Proofs.Ytfjfmieadedjoaa
open Go.RowKit

noncomputable def cnV (o : List (Int × Int)) (l : List PV) (p : Int × Int) : Bool := if chkB o l = true ∧ gd p = true then cornB l p else false
noncomputable def cnE (o : List (Int × Int)) (l : List PV) (p : Int × Int) : Int := if chkB o l then (if gd p then 0 else 3) else 2
theorem cn_bad {o : List (Int × Int)} {l : List PV} (p : Int × Int) (h : chkB o l = false) : cnV o l p = false ∧ cnE o l p = 2 := by unfold cnV cnE; rw [h]; exact ⟨if_neg (fun h => by cases h.1), rfl⟩
theorem cn_far {o : List (Int × Int)} {l : List PV} {p : Int × Int} (h : chkB o l = true) (hp : gd p = false) : cnV o l p = false ∧ cnE o l p = 3 := by unfold cnV cnE; rw [h, hp]; exact ⟨if_neg (fun h => by cases h.2), rfl⟩
theorem cn_good {o : List (Int × Int)} {l : List PV} {p : Int × Int} (h : chkB o l = true) (hp : gd p = true) : cnV o l p = cornB l p ∧ cnE o l p = 0 := by unfold cnV cnE; rw [h, hp]; exact ⟨if_pos ⟨rfl, rfl⟩, rfl⟩
section
variable {w W : World} {g0 g1 : Nat} {x0 y0 x1 y1 : Value} {t0 t1 : TypeId} {L : List (Nat × Array Value × TypeId)}
theorem Hold.two4 (h : Hold w [(g1, #[x1, y1], t1), (g0, #[x0, y0], t0)] W) : W.cell? ⟨g0, 0, none⟩ = some x0 ∧ W.cell? ⟨g0, 1, none⟩ = some y0 ∧ W.cell? ⟨g1, 0, none⟩ = some x1 ∧ W.cell? ⟨g1, 1, none⟩ = some y1 :=
 ⟨(h.pt (.tail _ (.head _))).1, (h.pt (.tail _ (.head _))).2, (h.pt (.head _)).1, (h.pt (.head _)).2⟩
theorem Pts.drew {A : Option Addr} {ps : List (Int × Int)} (h : Pts W W.heap.size A ps) : Pts W.drew W.drew.heap.size A ps := h.on ⟨rfl, rfl, rfl, Nat.le_refl _, fun _ _ => rfl⟩
theorem Hold.below0 (h : Hold w L W) : Below w.heap.size w W := h.1
end
theorem flat_all {o : List (Int × Int)} {l : List PV} {Ao : Option Addr} {co : Nat} (h : CheckP o l) (p : Int × Int) : decide (p ∈ flatR (allRV o Ao co l)) = cornB l p := by
 rw [Bool.eq_iff_iff, decide_eq_true_iff, cornB_iff, ← corner_any h]
 unfold flatR allRV
 rw [List.flatMap_cons, List.mem_append, List.flatMap_map, List.mem_flatMap]
 rfl
theorem flatR_len {o : List (Int × Int)} {l : List PV} {Ao : Option Addr} {co : Nat} (h : CheckP o l) : 0 < (flatR (allRV o Ao co l)).length ∧ (flatR (allRV o Ao co l)).length ≤ 1000000 := by
 have e : ∀ rs : List RV, (flatR rs).length = (edgs (rgs rs)).length := fun rs => by
  induction rs with
  |nil => rfl
  |cons r rs ih =>
   have h1 : flatR (r :: rs) = r.ring ++ flatR rs := by unfold flatR; rw [List.flatMap_cons]
   have h2 : edgs (rgs (r :: rs)) = edg r.ring ++ edgs (rgs rs) := by unfold rgs; rw [List.map_cons, edgs_cons]
   rw [h1, h2, List.length_append, List.length_append, edg_len, ih]
 rw [e, rgs_all, edgs_cons, List.length_append, edg_len]
 have h1 := edgs_cornN o l l.length (Nat.le_refl _)
 rw [List.take_length] at h1
 have h2 := h.1.2.2.2
 have h3 := (norm_sound h.2.1).1
 omega
set_option maxRecDepth 100000 in
set_option maxHeartbeats 1000000 in
theorem Corner_any (o : List (Int × Int)) (Ao : Option Addr) (co : Nat) (l : List PV) (Ap : Option Addr) (cp : Nat) (p : Int × Int) (hl : l.length ≤ 1000000) (ho : o.length ≤ 8796093022208) (hown : ∀ x ∈ l, x.par.own.size ≤ maxLen) (w : World) (h : PlanAt w o Ao co l Ap cp) :
  Calls Try.prog 11 #[.agg #[.slice Ao o.length co, .slice Ap l.length cp], .agg #[.int .i64 p.1, .int .i64 p.2]] w fun e' w' => e' = .returned (.tuple #[.bool (cnV o l p), .int .i64 (cnE o l p)]) ∧ Below w.heap.size w w' := by
 have HCK := Lib.hid (fun W (hb : Below w.heap.size w W) => check_any hl ho hown (h.on hb))
 have HRG := Lib.hid (fun W (hb : Below w.heap.size w W) => rings_any o Ao co l Ap cp hl W (h.prs.on hb))
 have HGD := Lib.hid (fun t w W h => good_lone p 1 t w W h)
 have HPA := Lib.hid (fun W (hb : Below w.heap.size w W) => h.on hb)
 have HL := Lib.hid hl
 have HQ := ((Hold.refl w).new #[.slice Ao o.length co, .slice Ap l.length cp] 26).new' #[.int .i64 p.1, .int .i64 p.2] 28 (n := w.heap.size + 1) (by simp)
 clear h hl ho hown
 go_enter Try.func11, Try.ntmps11
 go_upto_region 1 with (fail)
 generalize (World.alloc _ _) = W1 at HQ ⊢
 generalize w.heap.size + 1 = g1 at HQ ⊢
 obtain ⟨g0, hg0⟩ : ∃ g, w.heap.size = g := ⟨_, rfl⟩
 have HQ0 := Lib.hid HQ
 rw [hg0] at HQ ⊢
 have HG0 := Lib.hid hg0
 clear hg0
 obtain ⟨c0, c1⟩ := HQ.pt (.tail _ (.head _))
 have HQX := Lib.hid HQ
 clear HQ
 go_wp2_with fail
 go_at_call 23
 refine (HCK.out _ HQ0.out.1).mono ?_
 rintro e' W2 ⟨rfl, hB⟩
 have hq := HQX.out.on hB
 have HQ2 := Lib.hid hq
 clear c0 c1 hB
 obtain ⟨c0, c1⟩ := hq.pt (.tail _ (.head _))
 obtain ⟨d0, d1⟩ := hq.pt (.head _)
 clear hq
 cases hcb : chkB o l
 ·rw [ckR_false hcb]
  have HR := Lib.hid (cn_bad p hcb)
  clear hcb
  go_wp2
  refine bodyPost_ret (v := .tuple #[.bool false, .int .i64 2]) ?_ rfl ⟨by rw [HR.out.1, HR.out.2], HQ2.out.1⟩
  simp [results, Try.results11, go_sem]
 ·rw [ckR_true hcb]
  have HCP : Hid (CheckP o l) := chkB_iff.1 hcb
  have HCB := Lib.hid hcb
  clear hcb
  cases hp : gd p
  ·have HR := Lib.hid (cn_far HCB.out hp)
   rw [hp] at HGD
   clear hp
   go_wp2_with (go_at_call 24; go_must (with_reducible refine (HGD.out _ _ _ rfl).mono ?_; rintro e' W3 ⟨rfl, hB⟩; have HB3 := Lib.hid (Hold.below0 ((HQ2.out.alloc _).on hB)); clear hB))
   refine bodyPost_ret (v := .tuple #[.bool false, .int .i64 3]) ?_ rfl ⟨by rw [HR.out.1, HR.out.2], HB3.out⟩
   simp [results, Try.results11, go_sem]
  ·have HR := Lib.hid (cn_good HCB.out hp)
   rw [hp] at HGD
   clear hp
   go_upto_region 6 with (go_at_call 24; go_must (with_reducible refine (HGD.out _ _ _ rfl).mono ?_; rintro e' W3 ⟨rfl, hB⟩; have HS3 := (HQ2.out.alloc _).on hB; clear hB))
   have HALL : Hid (∀ W A c, Below w.heap.size w W → Items W W.heap.size A encRV (allRV o Ao co l) → Calls Try.prog 25 #[.slice A (allRV o Ao co l).length c] W fun e w' => ∃ v, e = .returned v ∧ Row W v (flatR (allRV o Ao co l)) w') := fun W A c hb hi => by
    refine concats_any (allRV o Ao co l) A c (by unfold allRV; rw [List.length_cons, List.length_map]; have := HCP.out.1.2.2.1; omega) (fun x hx => ?_) (flatR_len HCP.out).1 (flatR_len HCP.out).2 W ⟨hi, fun x hx => ?_⟩
    ·unfold allRV at hx
     rcases List.mem_cons.1 hx with rfl | hx
     ·exact (HPA.out W hb).nil
     ·obtain ⟨y, hy, rfl⟩ := List.mem_map.1 hx
      exact ((HPA.out W hb).prs.2 y hy).2.1
    ·unfold allRV at hx
     rcases List.mem_cons.1 hx with rfl | hx
     ·exact (HPA.out W hb).out
     ·obtain ⟨y, hy, rfl⟩ := List.mem_map.1 hx
      exact ((HPA.out W hb).prs.2 y hy).1
   have HFL := Lib.hid (flatR_len (Ao := Ao) (co := co) HCP.out).2
   have HFA := Lib.hid (flat_all (Ao := Ao) (co := co) HCP.out p)
   generalize allRV o Ao co l = rs at *
   generalize hfr : flatR rs = fs at *
   have HCO := Lib.hid (fun W A c (hp : Pts W W.heap.size A fs) => containsP_any fs A c p HFL.out W hp)
   rw [HFA.out] at HCO
   clear c0 c1 d0 d1 hfr HCK
   have HK := Lib.hid (fun W (h : Hold w [(g1, #[.int .i64 p.1, .int .i64 p.2], 28), (g0, #[.slice Ao o.length co, .slice Ap l.length cp], 26)] W) => h.two4)
   go_region_held3 (fun W => W.cell? ⟨g0, 0, none⟩ = some (.slice Ao o.length co) ∧ W.cell? ⟨g0, 1, none⟩ = some (.slice Ap l.length cp) ∧ W.cell? ⟨g1, 0, none⟩ = some (.int .i64 p.1) ∧ W.cell? ⟨g1, 1, none⟩ = some (.int .i64 p.2)) (first | exact HK.out _ (by assumption) | exact HK.out _ (Hold.drew (by assumption))) ((first
    |(go_at_call 26; (with_reducible refine (HRG.out _ (Hold.below0 (by first | assumption | exact Hold.drew (by assumption)))).mono ?_); rintro e' W4 ⟨v, rfl, hv⟩; obtain ⟨A4, c4, rfl, hi4, -⟩ := hv.items; have HS4 := Hold.on (by first | assumption | exact Hold.drew (by assumption)) hv.1; clear hv)
    |(go_at_call 25; (with_reducible refine (HALL.out _ _ _ (Hold.below0 (by first | assumption | exact Hold.drew (by assumption))) (by first | assumption | exact Items.drew (by assumption))).mono ?_); rintro e' W5 ⟨v, rfl, hv⟩; obtain ⟨A5, c5, rfl, hp5, -, -⟩ := hv.full; have HS5 := Hold.on (by first | assumption | exact Hold.drew (by assumption)) hv.1; clear hv)
    |(go_at_call 12; (with_reducible refine (HCO.out _ _ _ (by first | assumption | exact Pts.drew (by assumption))).mono ?_); rintro e' W6 ⟨rfl, hB6⟩; have HS6 := Hold.on (by first | assumption | exact Hold.drew (by assumption)) hB6)))
   have HB9 := Lib.hid (Hold.below0 HS6)
   clear HS6 HS5 HS4 hi4 hp5 hB6 HS3
   go_wp2_with fail
   refine bodyPost_ret (v := .tuple #[.bool (cornB l p), .int .i64 0]) ?_ rfl ⟨by rw [HR.out.1, HR.out.2], HB9.out⟩
   simp [results, Try.results11, go_sem]
end Go.Proofs.Ytfjfmieadedjoaa
