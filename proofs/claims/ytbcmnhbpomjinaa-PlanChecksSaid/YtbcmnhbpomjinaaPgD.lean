/- The program's around: the edges that are not there the other way round, as steps from corner to corner. -/
import Derived.Test.YtbcmnhbpomjinaaPgC
namespace Go.Proofs.Ytbcmnhbpomjinaa
open Go.RowKit

abbrev EdT := (Int × Int) × (Int × Int)
/-- The edges of a list that are not in ks the other way round. -/
def freeOf (ks es : List EdT) : List EdT := es.filter fun e => decide (bk e ∉ ks)
theorem freeOf_out {ks l1 l2 : List EdT} {e : EdT} (h : bk e ∈ ks) : freeOf ks (l1 ++ e :: l2) = freeOf ks (l1 ++ l2) := by
  unfold freeOf
  rw [List.filter_append, List.filter_append, List.filter_cons_of_neg (by simpa using h)]
theorem freeOf_in {ks l1 l2 : List EdT} {e : EdT} (h : bk e ∉ ks) : (freeOf ks (l1 ++ e :: l2)).Perm (e :: freeOf ks (l1 ++ l2)) := by
  unfold freeOf
  rw [List.filter_append, List.filter_append, List.filter_cons_of_pos (by simpa using h)]
  exact List.perm_middle
set_option maxRecDepth 100000 in
set_option maxHeartbeats 4000000 in
theorem around_any (b : Nat) (L : List (EdT × Int)) (w : World) (hm : MapIs w b gv iv OkE L) :
    Calls Try.prog 58 #[.map (some b)] w fun e w' => Below w.heap.size w w' ∧ ((e = .returned (.tuple #[.map none, .bool false]) ∧ ¬ ((freeOf (L.map Prod.fst) (L.map Prod.fst)).map Prod.fst).Nodup) ∨
      ∃ b2 S, e = .returned (.tuple #[.map (some b2), .bool true]) ∧ w.heap.size ≤ b2 ∧ MapIs w' b2 pv pv OkP S ∧ S.Perm (freeOf (L.map Prod.fst) (L.map Prod.fst))) := by
  have hmm := @run_makeMap Try.prog
  have HQ := (Hold.refl w).alloc (.map #[] 0)
  have HM0 : MapIs (w.alloc (.map #[] 0)) w.heap.size pv pv OkP ([] : List ((Int × Int) × (Int × Int))) := MapIs.made w
  have HM := hm.alloc (.map #[] 0)
  have HBL := Lib.hid hm.lt
  clear hm
  go_enter Try.func58, Try.ntmps58
  go_upto_region 2 with (fail)
  generalize (World.alloc _ _) = W1 at HQ HM0 HM ⊢
  obtain ⟨b2, hb2⟩ : ∃ b, w.heap.size = b := ⟨_, rfl⟩
  have HBB : Hid (w.heap.size = b2) := hb2
  rw [hb2] at HM0 ⊢
  have HBL2 : Hid (b < b2) := by unfold Hid; rw [← hb2]; exact HBL.out
  clear hb2 hmm
  go_wp2_with (at_range; refine wp_range rfl _ 69 rfl 60 3 Try.underlying69 b rfl HM ?_; intro W2 HR2 hg2 hs2)
  go_frame
  have HS2 := HM0.kept hg2 (by simp)
  have HW2 : Hold w [] W2 := ⟨HQ.1.grown hg2 HQ.1.size (fun k e => by cases e), fun _ h => (by cases h), List.Pairwise.nil⟩
  have HRB : Hid (b2 < W1.heap.size) := HM0.lt
  clear HM0 HM HQ hg2 hs2
  generalize W1.heap.size = r at *
  have HREL : Hid ((([] : List EdT) ++ freeOf (L.map Prod.fst) (L.map Prod.fst)).Perm (freeOf (L.map Prod.fst) (L.map Prod.fst))) := List.Perm.refl _
  generalize hks : L.map Prod.fst = ks at *
  have HKS := Lib.hid hks
  clear hks
  go_loopg [2] L.length (fun g m wr => ∃ left S, g = left.length ∧ m = .map (some b2) ∧ Ranges wr b r gv iv OkE L left ∧ MapIs wr b2 pv pv OkP S ∧ (S ++ freeOf ks (left.map Prod.fst)).Perm (freeOf ks ks) ∧ Hold w [] wr)
  case atStart => exact ⟨L, [], rfl, rfl, HR2, HS2, by rw [HKS.out]; exact HREL.out, HW2⟩
  case round =>
    clear HR2 HS2 HW2 HREL
    obtain ⟨left, S, hgl, rfl, HR, HM, hP, HB⟩ := hrel
    have HGL := Lib.hid hgl
    have HP := Lib.hid hP
    have HRS := Lib.hid HR
    have HMS := Lib.hid HM
    have HBS := Lib.hid HB
    clear hgl hP HR HM HB
    go_wp2_with (
      (at_next; refine wp_next rfl _ rfl r rfl HRS.out ?_ (fun l1 p l2 W5 hl hrg hg5 hs5 hen => ?_); rotate_left; (simp only [gv, iv] at hen ⊢); (have HL := Lib.hid hl); (have HRG := Lib.hid hrg); (have HG5 := Lib.hid hg5); clear hl hrg hg5 hs5; rotate_left))
    · intro hnil
      have HPN : Hid (S.Perm (freeOf ks ks)) := by have := HP.out; rw [hnil] at this; unfold Hid; simpa [freeOf] using this
      clear hnil HP
      go_wp2
      refine bodyPost_ret (v := .tuple #[.map (some b2), .bool true]) ?_ rfl ⟨HBS.out.1, .inr ⟨b2, S, rfl, Nat.le_of_eq HBB.out, HMS.out, by rw [HKS.out]; exact HPN.out⟩⟩
      simp [results, Try.results58, go_sem]
    · have hrg := HRG.out
      have hg5 := HG5.out
      obtain ⟨e, n⟩ := p
      have hpe : (e, n) ∈ L := by
        obtain ⟨es, c, since, seen, c0, _, _, _, _, _, _, _, _, _, hsub⟩ := HRS.out
        exact hsub.subset (by rw [HL.out]; exact List.mem_append_right _ List.mem_cons_self)
      have hok : OkE e := by
        obtain ⟨es, c, _, _, _, hok⟩ := hrg.isMap
        exact hok _ hpe
      have HOK := Lib.hid hok
      have HM5 := HMS.out.kept hg5 (by intro h; have := HRB.out; have := Option.some.inj h; omega)
      have HB5 : Hold w [] W5 := ⟨HBS.out.1.grown hg5 HBS.out.1.size (fun k h => by have := HBB.out; have := HRB.out; have := Option.some.inj h; omega), fun _ h => (by cases h), List.Pairwise.nil⟩
      clear hen hpe hok hg5
      dsimp only
      have HQ6 := HB5.new #[.int .i64 e.1.1, .int .i64 e.1.2, .int .i64 e.2.1, .int .i64 e.2.2] 60
      have HM6 := Lib.hid (HM5.alloc (.cells #[.int .i64 e.1.1, .int .i64 e.1.2, .int .i64 e.2.1, .int .i64 e.2.2] 60 (0, 0)))
      have HR6 := Lib.hid (hrg.alloc (.cells #[.int .i64 e.1.1, .int .i64 e.1.2, .int .i64 e.2.1, .int .i64 e.2.2] 60 (0, 0)))
      clear HB5 HM5 hrg
      generalize (World.alloc _ _) = W6 at HQ6 HM6 HR6 ⊢
      generalize W5.heap.size = ge at HQ6 ⊢
      obtain ⟨c0, c1, c2, c3⟩ := HQ6.q4 (.head _)
      have HT := Lib.hid (fun W => turned_any e W)
      have HQS := Lib.hid HQ6
      clear HQ6
      by_cases hm1 : bk e ∈ ks
      · have HP1 : Hid ((S ++ freeOf ks ((l1 ++ l2).map Prod.fst)).Perm (freeOf ks ks)) := by
          have := HP.out
          rw [HL.out, List.map_append, List.map_cons, freeOf_out hm1, ← List.map_append] at this
          exact this
        have HMK : Hid (bk e ∈ L.map Prod.fst) := by unfold Hid; rw [HKS.out]; exact hm1
        have HOKB : Hid (OkE (bk e)) := ⟨HOK.out.2, HOK.out.1⟩
        have HLN : Hid ((l1 ++ l2).length < left.length) := by unfold Hid; rw [HL.out]; simp
        clear hm1
        go_wp2_with (first
          | (go_at_call 73; go_must (refine (HT.out _).mono ?_; rintro e' W8 ⟨rfl, HB8⟩; have HQ8 := Lib.hid (HQS.out.on HB8); have HM8 := Lib.hid (HM6.out.on HB8 HM6.out.lt); have HR8 := Lib.hid (HR6.out.on HB8 HR6.out.isMap.lt HR6.out.lt); clear HB8))
          | (at_lookup; refine wp_look_yes (z := 0) rfl _ _ 69 rfl 3 keyE Try.underlying69 (zeroI _) b rfl HR8.out.isMap HOKB.out HMK.out rfl ?_; intro y9 _))
        go_roundg ((l1 ++ l2).length)
        case measure => have := HGL.out; have := HLN.out; omega
        case rel => exact ⟨l1 ++ l2, S, rfl, rfl, HR8.out, HM8.out, HP1.out, HQ8.out.bare⟩
      · have HMK : Hid (bk e ∉ L.map Prod.fst) := by unfold Hid; rw [HKS.out]; exact hm1
        have HOKB : Hid (OkE (bk e)) := ⟨HOK.out.2, HOK.out.1⟩
        have HLN : Hid ((l1 ++ l2).length < left.length) := by unfold Hid; rw [HL.out]; simp
        have HP1 : Hid ((S ++ e :: freeOf ks ((l1 ++ l2).map Prod.fst)).Perm (freeOf ks ks)) := by
          have := HP.out
          rw [HL.out, List.map_append, List.map_cons] at this
          rw [List.map_append]
          exact (List.Perm.append_left S (freeOf_in hm1).symm).trans this
        clear hm1
        by_cases hm2 : e.1 ∈ S.map Prod.fst
        · have HDU : Hid (¬ ((freeOf ks ks).map Prod.fst).Nodup) := fun hnd => by
            have h := ((HP1.out.map Prod.fst).nodup_iff).2 hnd
            rw [List.map_append, List.map_cons, List.nodup_append] at h
            exact h.2.2 _ hm2 _ List.mem_cons_self rfl
          have HM2 := Lib.hid hm2
          clear hm2
          go_wp2_with (first
            | (go_at_call 73; go_must (refine (HT.out _).mono ?_; rintro e' W8 ⟨rfl, HB8⟩; have hq8 := HQS.out.on HB8; have HQ8 := Lib.hid hq8; obtain ⟨d0, d1, d2, d3⟩ := hq8.q4 (.head _); have HM8 := Lib.hid (HM6.out.on HB8 HM6.out.lt); have HR8 := Lib.hid (HR6.out.on HB8 HR6.out.isMap.lt HR6.out.lt); clear HB8 hq8))
            | (at_lookup; refine wp_look_no (z := 0) rfl _ _ 69 rfl 3 keyE Try.underlying69 (zeroI _) b rfl HR8.out.isMap HOKB.out HMK.out rfl ?_)
            | (at_lookup; refine wp_look_yes (z := (0, 0)) rfl _ _ 92 rfl 43 keyP Try.underlying92 (zeroP _) b2 rfl HM8.out HOK.out.1 HM2.out rfl ?_; intro y9 _; dsimp only [pv]))
          refine bodyPost_ret (v := .tuple #[.map none, .bool false]) ?_ rfl ⟨(HQ8.out.alloc _).1, .inl ⟨rfl, by rw [HKS.out]; exact HDU.out⟩⟩
          simp [results, Try.results58, go_sem]
        · have HM2 := Lib.hid hm2
          clear hm2
          go_wp2_with (first
            | (go_at_call 73; go_must (refine (HT.out _).mono ?_; rintro e' W8 ⟨rfl, HB8⟩; have hq8 := HQS.out.on HB8; have HQ8 := Lib.hid hq8; obtain ⟨d0, d1, d2, d3⟩ := hq8.q4 (.head _); obtain ⟨f0, f1, f2, f3⟩ : (∀ o, (W8.alloc o).cell? ⟨ge, 0, none⟩ = some (.int .i64 e.1.1)) ∧ (∀ o, (W8.alloc o).cell? ⟨ge, 1, none⟩ = some (.int .i64 e.1.2)) ∧ (∀ o, (W8.alloc o).cell? ⟨ge, 2, none⟩ = some (.int .i64 e.2.1)) ∧ (∀ o, (W8.alloc o).cell? ⟨ge, 3, none⟩ = some (.int .i64 e.2.2)) := ⟨fun o => ((hq8.alloc o).q4 (.head _)).1, fun o => ((hq8.alloc o).q4 (.head _)).2.1, fun o => ((hq8.alloc o).q4 (.head _)).2.2.1, fun o => ((hq8.alloc o).q4 (.head _)).2.2.2⟩; have HM8 := Lib.hid (HM6.out.on HB8 HM6.out.lt); have HR8 := Lib.hid (HR6.out.on HB8 HR6.out.isMap.lt HR6.out.lt); clear HB8 hq8))
            | (at_lookup; refine wp_look_no (z := 0) rfl _ _ 69 rfl 3 keyE Try.underlying69 (zeroI _) b rfl HR8.out.isMap HOKB.out HMK.out rfl ?_)
            | (at_lookup; refine wp_look_no (z := (0, 0)) rfl _ _ 92 rfl 43 keyP Try.underlying92 (zeroP _) b2 rfl HM8.out HOK.out.1 HM2.out rfl ?_; dsimp only [pv])
            | (at_mapUpdate; refine wp_store (k := e.1) (y := e.2) rfl _ _ _ 92 rfl 43 keyP Try.underlying92 b2 rfl (HM8.out.alloc _) HOK.out.1 HM2.out rfl rfl ?_; intro W9 hm9 hg9 hs9; have HM9 := Lib.hid hm9; have HR9 := Lib.hid ((HR8.out.alloc _).kept hg9 (by intro h; have := HBL2.out; have := Option.some.inj h; omega) (by intro h; have := HRB.out; have := Option.some.inj h; omega)); have HB9 := Lib.hid (show Below w.heap.size w W9 from (HQ8.out.alloc _).1.grown hg9 (HQ8.out.alloc _).1.size (fun k h => by have := HBB.out; have := Option.some.inj h; omega)); clear hm9 hg9 hs9))
          go_roundg ((l1 ++ l2).length)
          case measure => have := HGL.out; have := HLN.out; omega
          case rel => exact ⟨l1 ++ l2, S ++ [e], rfl, rfl, HR9.out, HM9.out, by have := HP1.out; rw [List.append_assoc]; exact this, ⟨HB9.out, fun _ h => (by cases h), List.Pairwise.nil⟩⟩
end Go.Proofs.Ytbcmnhbpomjinaa
