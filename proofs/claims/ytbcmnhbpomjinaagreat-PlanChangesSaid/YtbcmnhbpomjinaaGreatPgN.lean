/- The program's fits and Check. -/
import Derived.Test.YtbcmnhbpomjinaaGreatPgM
import Derived.Test.YtbcmnhbpomjinaaGreatPgK
namespace Go.Proofs.YtbcmnhbpomjinaaGreat
open Go.RowKit

theorem joinB_symm (a b : EdT) : joinB a b = joinB b a := by
  rw [Bool.eq_iff_iff, joinB_iff, joinB_iff]
  constructor
  · rintro (h | h | h | h)
    · exact .inl h.symm
    · exact .inr (.inr (.inl h.symm))
    · exact .inr (.inl h.symm)
    · exact .inr (.inr (.inr h.symm))
  · rintro (h | h | h | h)
    · exact .inl h.symm
    · exact .inr (.inr (.inl h.symm))
    · exact .inr (.inl h.symm)
    · exact .inr (.inr (.inr h.symm))
theorem mvE_symm (a b : EdT) : mvE a b = mvE b a := by
  unfold mvE mv
  rw [meetN_eq, meetN_eq, meet_swap, gdL_same (ps := [a.1, a.2, b.1, b.2]) (qs := [b.1, b.2, a.1, a.2]) (fun p => by simp only [List.mem_cons, List.not_mem_nil, or_false]; constructor <;> (rintro (h | h | h | h) <;> simp [h]))]
theorem looseB_symm (a b : EdT) : looseB a b = looseB b a := by unfold looseB; rw [mvE_symm, joinB_symm]
theorem apart_iff {ys : List EdT} : ApartP ys ↔ ys.Pairwise fun a b => looseB a b = true := by
  rw [List.pairwise_iff_getElem]
  constructor
  · intro h i j hi hj hij
    rw [looseB_symm]; exact h j i hj hij
  · intro h i j hi hj
    rw [looseB_symm]; exact h j i (by omega) hi hj
theorem apart_perm {ys zs : List EdT} (h : ys.Perm zs) : ApartP ys ↔ ApartP zs := by
  rw [apart_iff, apart_iff]
  exact h.pairwise_iff fun {a b} hab => by rw [looseB_symm]; exact hab
theorem edgs_cons (o : List (Int × Int)) (L : List (List (Int × Int))) : edgs (o :: L) = edg o ++ edgs L := rfl
def FitsP (o : List (Int × Int)) (l : List PV) : Prop := (edgs (rings l)).Nodup ∧ MatchP (edgs (rings l)) o ∧ fillB o l = true ∧ ApartP (stAll (edg o ++ edgs (rings l)))
noncomputable def fitsB (o : List (Int × Int)) (l : List PV) : Bool := @decide (FitsP o l) (Classical.propDecidable _)
theorem fitsB_iff {o : List (Int × Int)} {l : List PV} : fitsB o l = true ↔ FitsP o l := by unfold fitsB; exact @decide_eq_true_iff _ (Classical.propDecidable _)
theorem fitsB_not {o : List (Int × Int)} {l : List PV} : fitsB o l = false ↔ ¬ FitsP o l := by rw [← fitsB_iff, Bool.not_eq_true]
/-- A ring that is sound: its size, its corners. -/
theorem normP_small {r : List (Int × Int)} (h : NormP r) : arE r = 0 ∧ r.length ≤ 128 ∧ ∀ p ∈ r, Gd p := by
  have h1 := (chE_zero.1 h.1).1
  obtain ⟨h2, h3⟩ := arE_zero.1 h1
  exact ⟨h1, h2, gdL_iff.1 h3⟩
set_option maxRecDepth 100000 in
set_option maxHeartbeats 1000000 in
theorem fits_any (o : List (Int × Int)) (Ao : Option Addr) (co : Nat) (l : List PV) (Ap : Option Addr) (cp : Nat) (hl : l.length ≤ 64) (hno : NormP o) (hnl : ∀ x ∈ l, NormP x.par.ring) (hn : (edgs (rings l)).length ≤ 10000) (w : World) (hr : Prs w Ap l) (hro : Pts w w.heap.size Ao o) :
    Calls Tryz.prog 85 #[.agg #[.slice Ao o.length co, .slice Ap l.length cp]] w fun e' w' => e' = .returned (.bool (fitsB o l)) ∧ Below w.heap.size w w' := by
  obtain ⟨ho1, ho2, ho3⟩ := normP_small hno
  have hs1 := fun x hx => normP_small (hnl x hx)
  have HS := Lib.hid (fun W (h : Below w.heap.size w W) => sides_any l Ap cp (by omega) (by omega) (fun x hx => (hs1 x hx).2.2) W (hr.on h))
  have HM := Lib.hid (fun b W (h : Below w.heap.size w W) hm => matched_any b (ownL l) o Ao co (by omega) W hm (hro.on h))
  have HF := Lib.hid (fun W (h : Below w.heap.size w W) => filled_any o Ao co l Ap cp (by omega) (by unfold maxLen; omega) (fun x hx => ⟨(hs1 x hx).1, by have := (hs1 x hx).2.1; unfold maxLen; omega⟩) W (hr.on h) (hro.on h))
  have HG := Lib.hid (fun W (h : Below w.heap.size w W) => rings_any o Ao co l Ap cp (by omega) W (hr.on h))
  have hal : (allRV o Ao co l).length ≤ 1000000 := by unfold allRV; rw [List.length_cons, List.length_map]; omega
  have hrl : ∀ x ∈ allRV o Ao co l, x.ring.length ≤ 1000000 ∧ ∀ p ∈ x.ring, Gd p := fun x hx => by
    unfold allRV at hx
    rcases List.mem_cons.1 hx with rfl | hx
    · exact ⟨by show o.length ≤ 1000000; omega, ho3⟩
    · obtain ⟨y, hy, rfl⟩ := List.mem_map.1 hx
      exact ⟨by have := (hs1 y hy).2.1; show y.par.ring.length ≤ 1000000; omega, (hs1 y hy).2.2⟩
  have hpt : ∀ W, Below w.heap.size w W → ∀ x ∈ allRV o Ao co l, Pts W W.heap.size x.A x.ring := fun W h x hx => by
    unfold allRV at hx
    rcases List.mem_cons.1 hx with rfl | hx
    · exact hro.on h
    · obtain ⟨y, hy, rfl⟩ := List.mem_map.1 hx
      exact ((hr.2 y hy).1).on h
  have hel : (edgs (rgs (allRV o Ao co l))).length ≤ 1000000 := by rw [rgs_all, edgs_cons, List.length_append, edg_len]; omega
  have HA := Lib.hid (fun A c W (h : Below w.heap.size w W) (hi : Items W W.heap.size A encRV (allRV o Ao co l)) => apart_any (allRV o Ao co l) A c hel hal (fun x hx => (hrl x hx).1) (fun x hx => (hrl x hx).2) W ⟨hi, hpt W h⟩)
  rw [rgs_all, edgs_cons] at HA
  rw [ownL_keys] at HM
  have HFB := Lib.hid (show fitsB o l = true ↔ FitsP o l from fitsB_iff)
  have HFN := Lib.hid (show ¬ FitsP o l → fitsB o l = false from fitsB_not.2)
  have HQ := (Hold.refl w).new #[.slice Ao o.length co, .slice Ap l.length cp] 26
  clear hr hro hno hnl hs1 hrl hpt ho3 hn hal hel
  generalize allRV o Ao co l = rs at *
  go_enter Tryz.func85, Tryz.ntmps85
  go_upto_region 1 with (fail)
  generalize (World.alloc _ _) = W1 at HQ ⊢
  obtain ⟨g0, hg0⟩ : ∃ g, w.heap.size = g := ⟨_, rfl⟩
  have HQ0 := Lib.hid HQ
  rw [hg0] at HQ ⊢
  have HG0 := Lib.hid hg0
  obtain ⟨c0, c1⟩ := HQ.pt (.head _)
  have HQX := Lib.hid HQ
  clear HQ hg0
  go_wp2_with fail
  go_at_call 49
  refine (HS.out _ HQ0.out.1).mono ?_
  rintro e W2 ⟨hB2, ⟨rfl, hnd⟩ | ⟨b, rfl, -, hnd, hmp⟩⟩
  · have HF0 := Lib.hid (HFN.out fun h => hnd h.1)
    have HB2 := Lib.hid (HQX.out.on hB2).1
    clear hB2 hnd c0 c1
    go_wp2
    go_ret
    exact ⟨by rw [HF0.out]; rfl, HB2.out⟩
  · have hq2 := HQX.out.on hB2
    have HB2 := Lib.hid hq2.1
    have HQ2 := Lib.hid hq2
    have HMP := Lib.hid hmp
    have HND := Lib.hid hnd
    clear c0 c1 hB2 hmp hnd
    obtain ⟨c0, c1⟩ := hq2.pt (.head _)
    clear hq2
    cases hmb : matchB (edgs (rings l)) o
    · have HF0 := Lib.hid (HFN.out fun h => matchB_not.1 hmb h.2.1)
      rw [hmb] at HM
      clear hmb
      go_wp2_with (go_at_call 122; go_must (refine (HM.out _ _ HB2.out HMP.out).mono ?_; rintro e' W3 ⟨rfl, hB⟩; have HB3 := Lib.hid (HQ2.out.on hB).1; clear hB))
      go_ret
      exact ⟨by rw [HF0.out]; rfl, HB3.out⟩
    · have HMM := Lib.hid (matchB_iff.1 hmb)
      rw [hmb] at HM
      clear hmb
      cases hfb : fillB o l
      · have HF0 := Lib.hid (HFN.out fun h => by have h3 := h.2.2.1; rw [hfb] at h3; cases h3)
        rw [hfb] at HF
        clear hfb
        go_wp2_with (first
          | (go_at_call 122; go_must (refine (HM.out _ _ HB2.out HMP.out).mono ?_; rintro e' W3 ⟨rfl, hB⟩; have hq3 := HQ2.out.on hB; obtain ⟨d0, d1⟩ := hq3.pt (.head _); have HB3 := Lib.hid hq3.1; have HQ3 := Lib.hid hq3; clear hB hq3))
          | (go_at_call 123; go_must (refine (HF.out _ HB3.out).mono ?_; rintro e' W4 ⟨rfl, hB⟩; have HB4 := Lib.hid (HQ3.out.on hB).1; clear hB)))
        go_ret
        exact ⟨by rw [HF0.out]; rfl, HB4.out⟩
      · have HFF := Lib.hid hfb
        rw [hfb] at HF
        clear hfb
        go_wp2_with (first
          | (go_at_call 122; go_must (refine (HM.out _ _ HB2.out HMP.out).mono ?_; rintro e' W3 ⟨rfl, hB⟩; have hq3 := HQ2.out.on hB; obtain ⟨d0, d1⟩ := hq3.pt (.head _); have HB3 := Lib.hid hq3.1; have HQ3 := Lib.hid hq3; clear hB hq3))
          | (go_at_call 123; go_must (refine (HF.out _ HB3.out).mono ?_; rintro e' W4 ⟨rfl, hB⟩; have hq4 := HQ3.out.on hB; obtain ⟨f0, f1⟩ := hq4.pt (.head _); have HB4 := Lib.hid hq4.1; have HQ4 := Lib.hid hq4; clear hB hq4))
          | (go_at_call 48; go_must (refine (HG.out _ HB4.out).mono ?_; rintro e' W5 ⟨v, rfl, hv⟩; obtain ⟨A5, c5, hv5, hi5, -⟩ := hv.items; have HB5 := Lib.hid (HQ4.out.on hv.1).1; have HI5 := Lib.hid hi5; subst hv5; clear hv hi5))
          | (go_at_call 124; go_must (refine (HA.out _ _ _ HB5.out HI5.out).mono ?_; rintro e' W6 ⟨bb, ys, rfl, hp, hiff, hB⟩; have HB6 := Lib.hid (Below.trans HB5.out (hB.mono HB5.out.size)); have HBB := Lib.hid (hiff.trans (apart_perm hp)); clear hp hiff hB)))
        go_ret
        refine ⟨?_, HB6.out⟩
        have : fitsB o l = bb := by
          rw [Bool.eq_iff_iff, HFB.out, HBB.out]
          exact ⟨fun h => h.2.2.2, fun h => ⟨HND.out, HMM.out, HFF.out, h⟩⟩
        rw [this]; rfl

def CheckQ (o : List (Int × Int)) (Ao : Option Addr) (co : Nat) (l : List PV) : Prop := NumP l ∧ BordP (allRV o Ao co l) ∧ FitsP o l
noncomputable def checkB (o : List (Int × Int)) (Ao : Option Addr) (co : Nat) (l : List PV) : Bool := @decide (CheckQ o Ao co l) (Classical.propDecidable _)
theorem checkB_iff {o : List (Int × Int)} {Ao : Option Addr} {co : Nat} {l : List PV} : checkB o Ao co l = true ↔ CheckQ o Ao co l := by unfold checkB; exact @decide_eq_true_iff _ (Classical.propDecidable _)
theorem checkB_not {o : List (Int × Int)} {Ao : Option Addr} {co : Nat} {l : List PV} : checkB o Ao co l = false ↔ ¬ CheckQ o Ao co l := by rw [← checkB_iff, Bool.not_eq_true]
noncomputable def ckE (o : List (Int × Int)) (Ao : Option Addr) (co : Nat) (l : List PV) : Int := if checkB o Ao co l then 0 else 2
theorem ckE_true {o : List (Int × Int)} {Ao : Option Addr} {co : Nat} {l : List PV} (h : checkB o Ao co l = true) : ckE o Ao co l = 0 := by unfold ckE; rw [if_pos h]
theorem ckE_false {o : List (Int × Int)} {Ao : Option Addr} {co : Nat} {l : List PV} (h : checkB o Ao co l = false) : ckE o Ao co l = 2 := by unfold ckE; rw [h]; rfl
theorem cornL_le {rs : List RV} : ∀ (n : Nat), n ≤ rs.length → (edgs (rgs (rs.take n))).length = cornL rs n
  | 0, _ => by simp [rgs, edgs, cornL]
  | n + 1, h => by
    have hlt : n < rs.length := by omega
    rw [edgs_rgs_take hlt, List.length_append, cornL_le n (by omega), edg_len, cornL_succ (List.getElem?_eq_getElem hlt)]
theorem bord_spec {o : List (Int × Int)} {Ao : Option Addr} {co : Nat} {l : List PV} (h : BordP (allRV o Ao co l)) : NormP o ∧ (∀ x ∈ l, NormP x.par.ring) ∧ o.length + (edgs (rings l)).length ≤ 1024 := by
  refine ⟨h.1 0 ⟨o, Ao, co⟩ rfl, fun x hx => ?_, ?_⟩
  · obtain ⟨i, hi, rfl⟩ := List.getElem_of_mem hx
    exact h.1 (i + 1) (toRV l[i]) (by unfold allRV; rw [List.getElem?_cons_succ, List.getElem?_map, List.getElem?_eq_getElem hi]; rfl)
  · have h1 := cornL_le (rs := allRV o Ao co l) _ (Nat.le_refl _)
    rw [List.take_length, rgs_all, edgs_cons, List.length_append, edg_len] at h1
    have := h.2
    omega
set_option maxRecDepth 100000 in
set_option maxHeartbeats 1000000 in
theorem PCheck_any (o : List (Int × Int)) (Ao : Option Addr) (co : Nat) (l : List PV) (Ap : Option Addr) (cp : Nat) (hl : l.length ≤ 1000000) (hlo : o.length ≤ 8796093022208) (hco : o.length ≤ co) (hcl : ∀ x ∈ l, x.par.ring.length ≤ x.cap) (hown : ∀ x ∈ l, x.par.own.size ≤ maxLen) (w : World) (hr : Prs w Ap l) (hro : Pts w w.heap.size Ao o) :
    Calls Tryz.prog 43 #[.agg #[.slice Ao o.length co, .slice Ap l.length cp]] w fun e' w' => e' = .returned (.int .i64 (ckE o Ao co l)) ∧ Below w.heap.size w w' := by
  have HNU := Lib.hid (fun W (h : Below w.heap.size w W) => numbered_any l Ap cp hl hown W (hr.on h))
  have HG := Lib.hid (fun W (h : Below w.heap.size w W) => rings_any o Ao co l Ap cp hl W (hr.on h))
  have HPR := Lib.hid (fun W (h : Below w.heap.size w W) => hr.on h)
  have HPO := Lib.hid (fun W (h : Below w.heap.size w W) => hro.on h)
  have hal : (allRV o Ao co l).length ≤ 1000000 ∨ ¬ NumP l := by
    by_cases h : l.length ≤ 64
    · exact .inl (by unfold allRV; rw [List.length_cons, List.length_map]; omega)
    · exact .inr fun hh => h hh.2.1
  have HBO := Lib.hid (fun A c W (h : Below w.heap.size w W) (h1 : (allRV o Ao co l).length ≤ 1000000) (hi : Items W W.heap.size A encRV (allRV o Ao co l)) => bordered_any (allRV o Ao co l) A c h1 (fun x hx => by
      unfold allRV at hx
      rcases List.mem_cons.1 hx with rfl | hx
      · exact hlo
      · obtain ⟨y, hy, rfl⟩ := List.mem_map.1 hx
        have := (hr.2 y hy).2.2
        show y.par.ring.length ≤ 8796093022208
        omega) (fun x hx => by
      unfold allRV at hx
      rcases List.mem_cons.1 hx with rfl | hx
      · exact hco
      · obtain ⟨y, hy, rfl⟩ := List.mem_map.1 hx
        exact hcl y hy) W ⟨hi, fun x hx => by
      unfold allRV at hx
      rcases List.mem_cons.1 hx with rfl | hx
      · exact hro.on h
      · obtain ⟨y, hy, rfl⟩ := List.mem_map.1 hx
        exact ((hr.2 y hy).1).on h⟩)
  have HQ := (Hold.refl w).new #[.slice Ao o.length co, .slice Ap l.length cp] 26
  have HCB := Lib.hid (show ¬ CheckQ o Ao co l → ckE o Ao co l = 2 from fun h => ckE_false (checkB_not.2 h))
  have HCT := Lib.hid (show CheckQ o Ao co l → ckE o Ao co l = 0 from fun h => ckE_true (checkB_iff.2 h))
  have HAL := Lib.hid hal
  clear hr hro hal hcl hown
  go_enter Tryz.func43, Tryz.ntmps43
  go_upto_region 1 with (fail)
  generalize (World.alloc _ _) = W1 at HQ ⊢
  generalize w.heap.size = g0 at HQ ⊢
  obtain ⟨c0, c1⟩ := HQ.pt (.head _)
  have HQX := Lib.hid HQ
  have HB1 := Lib.hid HQ.1
  clear HQ
  cases hnb : numB l
  · have HF0 := Lib.hid (HCB.out fun h => numB_not.1 hnb h.1)
    rw [hnb] at HNU
    clear hnb
    go_wp2_with (go_at_call 83; go_must (refine (HNU.out _ HB1.out).mono ?_; rintro e' W3 ⟨rfl, hB⟩; have HB3 := Lib.hid (HQX.out.on hB).1; clear hB))
    go_ret
    exact ⟨by rw [HF0.out]; rfl, HB3.out⟩
  · have hnp := numB_iff.1 hnb
    have HNP := Lib.hid hnp
    have HL64 := Lib.hid hnp.2.1
    have HAL1 : Hid ((allRV o Ao co l).length ≤ 1000000) := HAL.out.resolve_right fun h => h hnp
    rw [hnb] at HNU
    clear hnb hnp
    cases hbb : bordB (allRV o Ao co l)
    · have HF0 := Lib.hid (HCB.out fun h => bordB_not.1 hbb h.2.1)
      rw [hbb] at HBO
      clear hbb
      generalize allRV o Ao co l = rs at *
      go_wp2_with (first
        | (go_at_call 83; go_must (refine (HNU.out _ HB1.out).mono ?_; rintro e' W3 ⟨rfl, hB⟩; have hq3 := HQX.out.on hB; obtain ⟨d0, d1⟩ := hq3.pt (.head _); have HB3 := Lib.hid hq3.1; have HQ3 := Lib.hid hq3; clear hB hq3))
        | (go_at_call 48; go_must (refine (HG.out _ HB3.out).mono ?_; rintro e' W5 ⟨v, rfl, hv⟩; obtain ⟨A5, c5, hv5, hi5, -⟩ := hv.items; have HB5 := Lib.hid (HQ3.out.on hv.1).1; have HI5 := Lib.hid hi5; subst hv5; clear hv hi5))
        | (go_at_call 84; go_must (refine (HBO.out _ _ _ HB5.out HAL1.out HI5.out).mono ?_; rintro e' W6 ⟨rfl, hB⟩; have HB6 := Lib.hid (Below.trans HB5.out (hB.mono HB5.out.size)); clear hB)))
      go_ret
      exact ⟨by rw [HF0.out]; rfl, HB6.out⟩
    · have hbp := bordB_iff.1 hbb
      obtain ⟨hno, hnl, hsz⟩ := bord_spec hbp
      have HFI := Lib.hid (fun W (h : Below w.heap.size w W) => fits_any o Ao co l Ap cp HL64.out hno hnl (by omega) W (HPR.out W h) (HPO.out W h))
      have HCE : Hid (checkB o Ao co l = fitsB o l) := by
        unfold Hid
        rw [Bool.eq_iff_iff, checkB_iff, fitsB_iff]
        exact ⟨fun h => h.2.2, fun h => ⟨HNP.out, hbp, h⟩⟩
      rw [hbb] at HBO
      clear hbb hbp hno hnl hsz
      generalize allRV o Ao co l = rs at *
      cases hfi : fitsB o l
      · have HCE2 := Lib.hid (ckE_false (HCE.out.trans hfi))
        rw [hfi] at HFI
        clear hfi
        go_wp2_with (first
          | (go_at_call 83; go_must (refine (HNU.out _ HB1.out).mono ?_; rintro e' W3 ⟨rfl, hB⟩; have hq3 := HQX.out.on hB; obtain ⟨d0, d1⟩ := hq3.pt (.head _); have HB3 := Lib.hid hq3.1; have HQ3 := Lib.hid hq3; clear hB hq3))
          | (go_at_call 48; go_must (refine (HG.out _ HB3.out).mono ?_; rintro e' W5 ⟨v, rfl, hv⟩; obtain ⟨A5, c5, hv5, hi5, -⟩ := hv.items; have hq5 := HQ3.out.on hv.1; have HB5 := Lib.hid hq5.1; have HQ5 := Lib.hid hq5; have HI5 := Lib.hid hi5; subst hv5; clear hv hi5 hq5))
          | (go_at_call 84; go_must (refine (HBO.out _ _ _ HB5.out HAL1.out HI5.out).mono ?_; rintro e' W6 ⟨rfl, hB⟩; have hq6 := HQ5.out.on hB; obtain ⟨f0, f1⟩ := hq6.pt (.head _); have HB6 := Lib.hid hq6.1; have HQ6 := Lib.hid hq6; clear hB hq6))
          | (go_at_call 85; go_must (refine (HFI.out _ HB6.out).mono ?_; rintro e' W7 ⟨rfl, hB⟩; have HB7 := Lib.hid (HQ6.out.on hB).1; clear hB)))
        go_ret
        exact ⟨by rw [HCE2.out]; rfl, HB7.out⟩
      · have HCE2 := Lib.hid (ckE_true (HCE.out.trans hfi))
        rw [hfi] at HFI
        clear hfi
        go_wp2_with (first
          | (go_at_call 83; go_must (refine (HNU.out _ HB1.out).mono ?_; rintro e' W3 ⟨rfl, hB⟩; have hq3 := HQX.out.on hB; obtain ⟨d0, d1⟩ := hq3.pt (.head _); have HB3 := Lib.hid hq3.1; have HQ3 := Lib.hid hq3; clear hB hq3))
          | (go_at_call 48; go_must (refine (HG.out _ HB3.out).mono ?_; rintro e' W5 ⟨v, rfl, hv⟩; obtain ⟨A5, c5, hv5, hi5, -⟩ := hv.items; have hq5 := HQ3.out.on hv.1; have HB5 := Lib.hid hq5.1; have HQ5 := Lib.hid hq5; have HI5 := Lib.hid hi5; subst hv5; clear hv hi5 hq5))
          | (go_at_call 84; go_must (refine (HBO.out _ _ _ HB5.out HAL1.out HI5.out).mono ?_; rintro e' W6 ⟨rfl, hB⟩; have hq6 := HQ5.out.on hB; obtain ⟨f0, f1⟩ := hq6.pt (.head _); have HB6 := Lib.hid hq6.1; have HQ6 := Lib.hid hq6; clear hB hq6))
          | (go_at_call 85; go_must (refine (HFI.out _ HB6.out).mono ?_; rintro e' W7 ⟨rfl, hB⟩; have HB7 := Lib.hid (HQ6.out.on hB).1; clear hB)))
        go_ret
        exact ⟨by rw [HCE2.out]; rfl, HB7.out⟩
end Go.Proofs.YtbcmnhbpomjinaaGreat
