/- The walk of PlanBegins. -/
import Derived.Test.YtbcmnhbpomjinaaPlanA
import Derived.Test.YtbcmnhbpomjinaaRefSame
namespace Go.Proofs.Ytbcmnhbpomjinaa
open Go.RowKit

theorem same_none (W : World) : Calls Try.prog 14 #[.agg #[.slice none 0 0, .slice none 0 0], .agg #[.slice none 0 0, .slice none 0 0]] W fun e w' => e = .returned (.bool true) ∧ Below W.heap.size W w' := by
  have h := ref_samePlan [] [] none 0 [] none 0 none 0 [] none 0 (Nat.zero_le _) (Nat.zero_le _) W ⟨Items.nil _ _ _ _, fun x hx => nomatch hx⟩ ⟨Items.nil _ _ _ _, fun x hx => nomatch hx⟩ (fun hp => absurd hp (by simp)) (fun hp => absurd hp (by simp))
  rw [show decide (([] : List (Int × Int)) = [] ∧ ([] : List PV).map PV.par = ([] : List PV).map PV.par) = true by simp] at h
  exact h
theorem same_one (qs : List (Int × Int)) (id : Int) (s : ByteArray) (A1 : Option Addr) (c1 : Nat) (A2 : Option Addr) (c2 : Nat) (Ap1 : Option Addr) (cp1 : Nat) (A5 : Option Addr) (c5 : Nat) (hq : qs.length * 16 ≤ 140737488355328) (W W0 : World)
    (hB : Below W0.heap.size W0 W) (hP : PlanAt W0 qs A1 c1 [⟨⟨id, qs, s⟩, A2, c2⟩] Ap1 cp1) (hp5 : Pts W W.heap.size A5 qs) (hn5 : NilOk A5 c5) :
    Calls Try.prog 14 #[.agg #[.slice A1 qs.length c1, .slice Ap1 1 cp1], .agg #[.slice A5 qs.length c5, .slice (some ⟨W.heap.size, 0, none⟩) 1 1]] (W.alloc (Obj.cells #[.int .i64 id, .slice A5 qs.length c5, .string s] 40 (0, 0))) fun e w' => e = .returned (.bool true) ∧ Below (W.alloc (Obj.cells #[.int .i64 id, .slice A5 qs.length c5, .string s] 40 (0, 0))).heap.size (W.alloc (Obj.cells #[.int .i64 id, .slice A5 qs.length c5, .string s] 40 (0, 0))) w' := by
  have hb := (Below.refl W.heap.size W).alloc (Nat.le_refl _) (Obj.cells #[.int .i64 id, .slice A5 qs.length c5, .string s] 40 (0, 0))
  have hb2 := hB.trans (hb.mono hB.size)
  have h := ref_samePlan qs qs A1 c1 [⟨⟨id, qs, s⟩, A2, c2⟩] Ap1 cp1 A5 c5 [⟨⟨id, qs, s⟩, A5, c5⟩] (some ⟨W.heap.size, 0, none⟩) 1 (by unfold maxLen; omega) (show 1 ≤ _ by decide) (W.alloc (Obj.cells #[.int .i64 id, .slice A5 qs.length c5, .string s] 40 (0, 0)))
    (hP.prs.on hb2) ⟨items_one (heap_alloc_new W _) rfl (by simp only [World.size_alloc]; omega), fun x hx => by
      obtain rfl := List.mem_singleton.1 hx
      exact ⟨hp5.on hb, hn5, hq⟩⟩ (hP.out.on hb2) (hp5.on hb)
  rw [show decide (qs = qs ∧ [(⟨⟨id, qs, s⟩, A2, c2⟩ : PV)].map PV.par = [(⟨⟨id, qs, s⟩, A5, c5⟩ : PV)].map PV.par) = true by simp] at h
  exact h
set_option maxRecDepth 100000 in
set_option maxHeartbeats 1000000 in
theorem begins_walk (ps : List (Int × Int)) (A : Option Addr) (cap : Nat) (id : Int) (s : ByteArray) (hs : s.size ≤ maxLen) (hn : ps.length * 16 ≤ 140737488355328) (hnil : NilOk A cap) (w : World) (hr : Pts w w.heap.size A ps) :
    Calls Try.prog 4 #[.slice A ps.length cap, .int .i64 id, .string s] w fun e w' => e = .returned (.bool true) ∧ Below w.heap.size w w' := by
  have HR := Lib.hid (Row.made w 43 rfl)
  have HA := Lib.hid (hr.on HR.out.1)
  have HN := Lib.hid hnil
  have HL := Lib.hid hn
  have HAN := Lib.hid (fun W (_ : Below w.heap.size w W) => plan_answers W)
  have HCK := Lib.hid (fun W (hb : Below w.heap.size w W) => ref_check ps A cap (by unfold maxLen; omega) W (hr.on hb))
  have HID := Lib.hid (fun W (_ : Below w.heap.size w W) => ref_id id W)
  have HOW := Lib.hid (fun W (_ : Below w.heap.size w W) => ref_owner s hs W)
  have HSN := Lib.hid (fun W (_ : Below w.heap.size w W) => same_none W)
  have HLE := Lib.hid (fun (h : ps.length ≤ 1000000000) W (hb : Below w.heap.size w W) => ref_least ps A cap h W (hr.on hb))
  have HBG := Lib.hid (fun A1 c1 (hc1 : ps.length ≤ c1) W (hp1 : Pts W W.heap.size A1 ps) => Begin_any ps A1 c1 id s hs (by omega) hc1 W hp1)
  clear hr hnil hn hs
  go_enter Try.func4, Try.ntmps4
  go_wp2_with (at_builtin; go_must (refine append_pts _ Try.underlying23 HR.out ps A cap HA.out HN.out (by have := HL.out; simp; omega) rfl _ _ rfl rfl rfl ?_; rintro v1 w1 HR1; rw [List.nil_append] at HR1; have HB1 := Lib.hid HR1.1; obtain ⟨A1, c1, rfl, hp1, hn1, hc1⟩ := HR1.full; have HBG1 := Lib.hid (HBG.out _ _ hc1 _ hp1); clear HR1 hp1 hn1 hc1 HBG HR HA HN))
  go_at_call 10
  refine HBG1.out.mono ?_
  rintro e W2 hbg
  obtain ⟨hB, hbad | ⟨hgood, D1, d1, D2, d2, Dp, dp, rfl, hP⟩⟩ := hbg
  · obtain ⟨hne, rfl⟩ := hbad
    have hb := (Below.refl W2.heap.size W2).alloc (Nat.le_refl _) (Obj.cells #[.slice none 0 0, .slice none 0 0] 26 (0, 0))
    have HB2 := Lib.hid (HB1.out.trans ((hB.trans (hb.mono hB.size)).mono HB1.out.size))
    have HQ2 := Lib.hid ((Hold.refl W2).new #[.slice none 0 0, .slice none 0 0] 26)
    clear hB hb HBG1
    by_cases hc : chE ps = 0
    · cases hi : idB id
      · rw [bgE_arg hc (fun h => by rw [hi] at h; cases h.1)]
        rw [hc] at HCK
        rw [hi] at HID
        clear hne hc hi HLE HOW
        go_wp2_with fail
        go_at_call 11
        refine (HCK.out _ HB2.out).mono ?_
        rintro e' W3 ⟨rfl, hB⟩
        have HQ3 := Lib.hid (HQ2.out.on hB)
        have HB3 := Lib.hid (HB2.out.trans (hB.mono HB2.out.size))
        clear hB
        go_wp2_with fail
        go_at_call 12
        refine (HID.out _ HB3.out).mono ?_
        rintro e' W4 ⟨rfl, hB⟩
        have HQ4 := Lib.hid (HQ3.out.on hB)
        have HB4 := Lib.hid (HB3.out.trans (hB.mono HB3.out.size))
        clear hB
        go_wp2_with fail
        go_at_call 5
        refine (HAN.out _ HB4.out).mono ?_
        rintro e' W5 ⟨rfl, hB⟩
        have HQ5 := Lib.hid (HQ4.out.on hB)
        have HB5 := Lib.hid (HB4.out.trans (hB.mono HB4.out.size))
        clear hB
        obtain ⟨f0, f1⟩ := HQ5.out.pt (.head _)
        go_wp2_with fail
        go_at_call 14
        refine (HSN.out _ HB5.out).mono ?_
        rintro e' W6 ⟨rfl, hB⟩
        have HQ6 := Lib.hid (HQ5.out.on hB)
        have HB6 := Lib.hid (HB5.out.trans (hB.mono HB5.out.size))
        clear hB
        clear f0 f1
        go_wp2
        go_ret
        exact ⟨rfl, HB6.out⟩
      · cases ho : owB s
        · rw [bgE_arg hc (fun h => by rw [ho] at h; cases h.2)]
          rw [hc] at HCK
          rw [hi] at HID
          rw [ho] at HOW
          clear hne hc hi ho HLE
          go_wp2_with fail
          go_at_call 11
          refine (HCK.out _ HB2.out).mono ?_
          rintro e' W3 ⟨rfl, hB⟩
          have HQ3 := Lib.hid (HQ2.out.on hB)
          have HB3 := Lib.hid (HB2.out.trans (hB.mono HB2.out.size))
          clear hB
          go_wp2_with fail
          go_at_call 12
          refine (HID.out _ HB3.out).mono ?_
          rintro e' W4 ⟨rfl, hB⟩
          have HQ4 := Lib.hid (HQ3.out.on hB)
          have HB4 := Lib.hid (HB3.out.trans (hB.mono HB3.out.size))
          clear hB
          go_wp2_with fail
          go_at_call 13
          refine (HOW.out _ HB4.out).mono ?_
          rintro e' W5 ⟨rfl, hB⟩
          have HQ5 := Lib.hid (HQ4.out.on hB)
          have HB5 := Lib.hid (HB4.out.trans (hB.mono HB4.out.size))
          clear hB
          go_wp2_with fail
          go_at_call 5
          refine (HAN.out _ HB5.out).mono ?_
          rintro e' W6 ⟨rfl, hB⟩
          have HQ6 := Lib.hid (HQ5.out.on hB)
          have HB6 := Lib.hid (HB5.out.trans (hB.mono HB5.out.size))
          clear hB
          obtain ⟨f0, f1⟩ := HQ6.out.pt (.head _)
          go_wp2_with fail
          go_at_call 14
          refine (HSN.out _ HB6.out).mono ?_
          rintro e' W7 ⟨rfl, hB⟩
          have HQ7 := Lib.hid (HQ6.out.on hB)
          have HB7 := Lib.hid (HB6.out.trans (hB.mono HB6.out.size))
          clear hB
          clear f0 f1
          go_wp2
          go_ret
          exact ⟨rfl, HB7.out⟩
        · exact absurd (bgE_ok hc hi ho) hne
    · rw [bgE_bad hc]
      clear hne HLE HOW HID
      have e1 : (chE ps == 0) = false := by simpa using hc
      generalize chE ps = x at *
      have HX := Lib.hid hc
      clear hc
      go_wp2_with fail
      go_at_call 11
      refine (HCK.out _ HB2.out).mono ?_
      rintro e' W3 ⟨rfl, hB⟩
      have HQ3 := Lib.hid (HQ2.out.on hB)
      have HB3 := Lib.hid (HB2.out.trans (hB.mono HB2.out.size))
      clear hB
      go_wp2_with fail
      go_at_call 5
      refine (HAN.out _ HB3.out).mono ?_
      rintro e' W4 ⟨rfl, hB⟩
      have HQ4 := Lib.hid (HQ3.out.on hB)
      have HB4 := Lib.hid (HB3.out.trans (hB.mono HB3.out.size))
      clear hB
      obtain ⟨f0, f1⟩ := HQ4.out.pt (.head _)
      go_wp2_with fail
      go_at_call 14
      refine (HSN.out _ HB4.out).mono ?_
      rintro e' W5 ⟨rfl, hB⟩
      have HQ5 := Lib.hid (HQ4.out.on hB)
      have HB5 := Lib.hid (HB4.out.trans (hB.mono HB4.out.size))
      clear hB
      clear f0 f1
      go_wp2
      go_ret
      exact ⟨rfl, HB5.out⟩
  · have hc : chE ps = 0 := by
      by_cases h : chE ps = 0
      · exact h
      · rw [bgE_bad h] at hgood; exact absurd hgood h
    have hio : idB id = true ∧ owB s = true := by
      by_cases h : idB id = true ∧ owB s = true
      · exact h
      · rw [bgE_arg hc h] at hgood; cases hgood
    rw [hc] at HCK
    rw [hio.1] at HID
    rw [hio.2] at HOW
    have hl : ps.length ≤ 1000000000 := Nat.le_trans (arE_zero.1 (chE_zero.1 hc).1).1 (by decide)
    have HLE1 := Lib.hid (HLE.out hl)
    rw [nmL_eq hc] at hP ⊢
    have HSO := Lib.hid (fun A5 c5 W (hB : Below W2.heap.size W2 W) => same_one (rotL ps (leastI ps ps.length)) id s D1 d1 D2 d2 Dp dp A5 c5 hP.room W W2 hB hP)
    clear hgood hc hio hl HLE HSN hP
    generalize rotL ps (leastI ps ps.length) = qs at *
    have hb := (Below.refl W2.heap.size W2).alloc (Nat.le_refl _) (Obj.cells #[.slice D1 qs.length d1, .slice Dp 1 dp] 26 (0, 0))
    have HB2 := Lib.hid (HB1.out.trans ((hB.trans (hb.mono hB.size)).mono HB1.out.size))
    have HQ2 := Lib.hid ((Hold.refl W2).new #[.slice D1 qs.length d1, .slice Dp 1 dp] 26)
    clear hB hb HBG1
    go_wp2_with fail
    go_at_call 11
    refine (HCK.out _ HB2.out).mono ?_
    rintro e' W3 ⟨rfl, hB⟩
    have HQ3 := Lib.hid (HQ2.out.on hB)
    have HB3 := Lib.hid (HB2.out.trans (hB.mono HB2.out.size))
    clear hB
    go_wp2_with fail
    go_at_call 12
    refine (HID.out _ HB3.out).mono ?_
    rintro e' W4 ⟨rfl, hB⟩
    have HQ4 := Lib.hid (HQ3.out.on hB)
    have HB4 := Lib.hid (HB3.out.trans (hB.mono HB3.out.size))
    clear hB
    go_wp2_with fail
    go_at_call 13
    refine (HOW.out _ HB4.out).mono ?_
    rintro e' W5 ⟨rfl, hB⟩
    have HQ5 := Lib.hid (HQ4.out.on hB)
    have HB5 := Lib.hid (HB4.out.trans (hB.mono HB4.out.size))
    clear hB
    go_wp2_with fail
    go_at_call 5
    refine (HAN.out _ HB5.out).mono ?_
    rintro e' W6 ⟨rfl, hB⟩
    have HQ6 := Lib.hid (HQ5.out.on hB)
    have HB6 := Lib.hid (HB5.out.trans (hB.mono HB5.out.size))
    clear hB
    clear HCK HID HOW HAN
    go_wp2_with fail
    go_at_call 15
    refine (HLE1.out _ HB6.out).mono ?_
    rintro e' W7 ⟨v, rfl, hv⟩
    have hq7 := HQ6.out.on hv.1
    have HB7 := Lib.hid (HB6.out.trans (hv.1.mono HB6.out.size))
    obtain ⟨A5, c5, rfl, hp5, hn5, -⟩ := hv.full
    have HS := Lib.hid (HSO.out A5 c5 W7 hq7.1 hp5 hn5)
    have hb := (Below.refl W7.heap.size W7).alloc (Nat.le_refl _) (Obj.cells #[.int .i64 id, .slice A5 qs.length c5, .string s] 40 (0, 0))
    have HB8 := Lib.hid (HB7.out.trans (hb.mono HB7.out.size))
    obtain ⟨f0, f1⟩ := hq7.pt (.head _)
    clear hv hq7 hp5 hn5 hb HSO HLE1
    go_wp2_with (go_at_call 14; go_must (refine HS.out.mono ?_; rintro e' W9 ⟨rfl, hB⟩; have HB9 := Lib.hid (HB8.out.trans (hB.mono HB8.out.size)); clear hB))
    go_ret
    exact ⟨rfl, HB9.out⟩
end Go.Proofs.Ytbcmnhbpomjinaa
