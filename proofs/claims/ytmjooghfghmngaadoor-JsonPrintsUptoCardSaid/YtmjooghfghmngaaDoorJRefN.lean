/- Numbers, as the document has them. -/
import Derived.Test.YtmjooghfghmngaaDoorJNum
namespace Go.Proofs.YtmjooghfghmngaaDoor
open Go.RowKit Go.Shelf Go.Lib

theorem isD_iff (x : UInt8) : isD x = (decide (48 ≤ x.toNat) && decide (x.toNat ≤ 57)) := by
  have h : ∀ n : Nat, n < 256 → isD (UInt8.ofNat n) = (decide (48 ≤ n) && decide (n ≤ 57)) := by decide +kernel
  have := h x.toNat x.toNat_lt
  rwa [UInt8.ofNat_toNat] at this
def isAt (s : List UInt8) (i : Int) (c : UInt8) : Bool := s[i.toNat]? == some c
def dgAt (s : List UInt8) (i : Int) : Bool := (s[i.toNat]?).any isD
def dgE (s : List UInt8) (i : Int) : Int := i + ((dgs (s.drop i.toNat)).length : Nat)

section
variable {W : World} {A : Option Addr} {c : Nat} {s : List UInt8}
set_option maxHeartbeats 1000000 in
theorem ref_digit (hB : Lib.BytesAt W A s.length s) (n : Nat) :
    Calls Tryd.prog 44 #[.slice A s.length c, .int .i64 n] W fun e w' => e = .returned (.bool (dgAt s n)) ∧ w' = W := by
  have hd : dgAt s n = (s[n]?).any isD := by simp [dgAt]
  rw [hd]
  rcases Nat.lt_or_ge n s.length with hlt | hge
  · obtain ⟨g, o, rfl, hc⟩ := hB (by omega)
    have hcq := hc n hlt
    obtain ⟨x, hx⟩ : ∃ x, s[n]? = some x := ⟨s[n], List.getElem?_eq_getElem hlt⟩
    rw [show s.getD n 0 = x by simp [List.getD_eq_getElem?_getD, hx]] at hcq
    rw [hx, Option.any_some, isD_iff]
    clear hx hd hc
    have hl : (n : Int) < (s.length : Int) := by omega
    go_enter Tryd.func44, Tryd.ntmps44
    go_wp2_with fail
    all_goals go_ret
    all_goals refine ⟨?_, rfl⟩
    · have : 48 ≤ x.toNat := by omega
      simp [this]
      omega
    · have : ¬ 48 ≤ x.toNat := by omega
      simp [this]
  · rw [List.getElem?_eq_none hge]
    have hl : ¬ (n : Int) < (s.length : Int) := by omega
    go_enter Tryd.func44, Tryd.ntmps44
    go_wp2_with fail
    all_goals go_ret
    all_goals first | exact ⟨rfl, rfl⟩ | simp
set_option maxHeartbeats 1000000 in
theorem ref_is (hB : Lib.BytesAt W A s.length s) (n : Nat) (d : UInt8) :
    Calls Tryd.prog 26 #[.slice A s.length c, .int .i64 n, .int .u8 (d.toNat : Nat)] W fun e w' => e = .returned (.bool (isAt s n d)) ∧ w' = W := by
  have hd : isAt s n d = (s[n]? == some d) := by simp [isAt]
  rw [hd]
  rcases Nat.lt_or_ge n s.length with hlt | hge
  · obtain ⟨g, o, rfl, hc⟩ := hB (by omega)
    have hcq := hc n hlt
    obtain ⟨x, hx⟩ : ∃ x, s[n]? = some x := ⟨s[n], List.getElem?_eq_getElem hlt⟩
    rw [show s.getD n 0 = x by simp [List.getD_eq_getElem?_getD, hx]] at hcq
    rw [hx]
    have hxd : ((some x : Option UInt8) == some d) = (((x.toNat : Nat) : Int) == ((d.toNat : Nat) : Int)) := by
      rw [cmpE d rfl]; rfl
    rw [hxd]
    clear hx hd hc hxd
    have hl : (n : Int) < (s.length : Int) := by omega
    go_enter Tryd.func26, Tryd.ntmps26
    go_wp2_with fail
    all_goals go_ret
    all_goals first | exact ⟨rfl, rfl⟩ | simp
  · rw [List.getElem?_eq_none hge]
    have hl : ¬ (n : Int) < (s.length : Int) := by omega
    go_enter Tryd.func26, Tryd.ntmps26
    go_wp2_with fail
    all_goals go_ret
    all_goals first | exact ⟨rfl, rfl⟩ | simp

theorem dgs_step {n : Nat} (h : dgAt s n = true) : (dgs (s.drop n)).length = (dgs (s.drop (n + 1))).length + 1 ∧ n < s.length := by
  have hd : dgAt s n = (s[n]?).any isD := by simp [dgAt]
  rw [hd] at h
  rcases Nat.lt_or_ge n s.length with hlt | hge
  · rw [List.getElem?_eq_getElem hlt, Option.any_some] at h
    refine ⟨?_, hlt⟩
    rw [List.drop_eq_getElem_cons hlt, dgs, List.takeWhile_cons, if_pos h]
    simp [dgs]
  · rw [List.getElem?_eq_none hge] at h; cases h
theorem dgs_stop {n : Nat} (h : dgAt s n = false) : dgs (s.drop n) = [] := by
  have hd : dgAt s n = (s[n]?).any isD := by simp [dgAt]
  rw [hd] at h
  rcases Nat.lt_or_ge n s.length with hlt | hge
  · rw [List.getElem?_eq_getElem hlt, Option.any_some] at h
    rw [List.drop_eq_getElem_cons hlt, dgs, List.takeWhile_cons, if_neg (by rw [h]; simp)]
  · rw [List.drop_eq_nil_of_le hge]; rfl

set_option maxHeartbeats 1000000 in
theorem ref_digits (hB : Lib.BytesAt W A s.length s) (hs : s.length ≤ 2097152) (n : Nat) (hn : n ≤ 4194304) :
    Calls Tryd.prog 27 #[.slice A s.length c, .int .i64 n] W fun e w' => e = .returned (.int .i64 (dgE s n)) ∧ w' = W := by
  obtain ⟨r, hr⟩ : ∃ r, r = dgE s n := ⟨_, rfl⟩
  rw [← hr]
  have HR := Lib.hid hr
  have HD := Lib.hid (fun m => ref_digit (c := c) hB m)
  clear hr
  go_enter Tryd.func27, Tryd.ntmps27
  go_wp2_with fail
  go_loopw [1] (fun i wr => ∃ m : Nat, i = .int .i64 m ∧ wr = W ∧ m ≤ 4194304 ∧ Hid (r = dgE s m)) (fun i _ => 4194304 - (RowKit.intOf i).toNat)
  case atStart => exact ⟨n, rfl, rfl, hn, HR⟩
  case round =>
    obtain ⟨m, rfl, rfl, hm, HM⟩ := hrel
    cases hx : dgAt s m with
    | true =>
      obtain ⟨e1, e2⟩ := dgs_step hx
      have HE := Lib.hid e1
      clear e1
      go_wp2_with (go_at_call 44; (with_reducible refine (HD.out _).mono ?_); rintro e' _ ⟨rfl, rfl⟩; rw [hx])
      refine ⟨⟨m + 1, by go_num, by first | rfl | trivial, by omega, ?_⟩, by simp [RowKit.intOf]; omega⟩
      show r = _
      rw [HM.out, dgE, dgE]
      have e3 : ((m : Nat) : Int).toNat = m := by simp
      have e4 : ((m + 1 : Nat) : Int).toNat = m + 1 := by simp
      rw [e3, e4, HE.out]
      omega
    | false =>
      have e1 := dgs_stop hx
      have HE := Lib.hid e1
      clear e1
      go_wp2_with (go_at_call 44; (with_reducible refine (HD.out _).mono ?_); rintro e' _ ⟨rfl, rfl⟩; rw [hx])
      go_ret
      refine ⟨?_, rfl⟩
      rw [HM.out, dgE]
      have e3 : ((m : Nat) : Int).toNat = m := by simp
      rw [e3, HE.out]
      simp
theorem dgE_ge (s : List UInt8) (i : Int) : i ≤ dgE s i := by unfold dgE; omega
theorem dgE_le {s : List UInt8} {i : Int} (h0 : 0 ≤ i) (h : i ≤ s.length) : dgE s i ≤ s.length := by
  have := (List.takeWhile_prefix isD (l := s.drop i.toNat)).length_le
  unfold dgE dgs
  simp only [List.length_drop] at this
  omega
theorem dgE_lt {s : List UInt8} {i : Int} (_h0 : 0 ≤ i) (h : ¬ dgE s i = i) : i.toNat < s.length := by
  rcases Nat.lt_or_ge i.toNat s.length with h1 | h1
  · exact h1
  · exfalso
    apply h
    unfold dgE
    rw [List.drop_eq_nil_of_le h1]
    simp [dgs]
theorem isAt_lt {s : List UInt8} {i : Int} {c : UInt8} (_h0 : 0 ≤ i) (h : isAt s i c = true) : i < s.length := by
  unfold isAt at h
  rcases Nat.lt_or_ge i.toNat s.length with h1 | h1
  · omega
  · rw [List.getElem?_eq_none h1] at h; cases h

/-- From the place behind the point's digits on: an exponent, or nothing. -/
def tailI (s : List UInt8) (i : Int) : Bool :=
  if isAt s i 101 = true ∨ isAt s i 69 = true then
    if isAt s (i + 1) 43 = true ∨ isAt s (i + 1) 45 = true then
      if dgE s (i + 1 + 1) = i + 1 + 1 then false else dgE s (i + 1 + 1) == (s.length : Int)
    else if dgE s (i + 1) = i + 1 then false else dgE s (i + 1) == (s.length : Int)
  else i == (s.length : Int)
def bodyI (s : List UInt8) (i : Int) : Bool :=
  if dgE s i = i ∨ (isAt s i 48 = true ∧ i + 1 < dgE s i) then false
  else if isAt s (dgE s i) 46 = true then if dgE s (dgE s i + 1) = dgE s i + 1 then false else tailI s (dgE s (dgE s i + 1))
  else tailI s (dgE s i)
def numI (s : List UInt8) : Bool := if isAt s 0 45 = true then bodyI s 1 else bodyI s 0
theorem dg_nonneg {s : List UInt8} {i : Int} (h : 0 ≤ i) : 0 ≤ dgE s i := Int.le_trans h (dgE_ge s i)
theorem one_nonneg {i : Int} (h : 0 ≤ i) : 0 ≤ i + 1 := by omega
theorem dgE_max {s : List UInt8} {i : Int} (h0 : 0 ≤ i) : dgE s i ≤ s.length ∨ dgE s i = i := by
  rcases Int.lt_or_le s.length i with h | h
  · right
    unfold dgE
    rw [List.drop_eq_nil_of_le (by omega)]
    simp [dgs]
  · exact .inl (dgE_le h0 h)
theorem dg_wrap {s : List UInt8} (hs : s.length ≤ 2097152) {i : Int} (h0 : 0 ≤ i) (h1 : i ≤ 2097155) : IntKind.i64.wrap (dgE s i + 1) = dgE s i + 1 ∧ IntKind.i64.wrap (dgE s i + 1 + 1) = dgE s i + 1 + 1 ∧ dgE s i ≤ 2097155 := by
  have h2 := dg_nonneg (s := s) h0
  have h3 : dgE s i ≤ 2097155 := by rcases dgE_max (s := s) h0 with h | h <;> omega
  exact ⟨IntWalk.i64_in _ (by omega), IntWalk.i64_in _ (by omega), h3⟩

theorem bodyI_bad {s : List UInt8} {i : Int} (hk : ¬ dgE s i = i) : bodyI s i = if (isAt s i 48 && decide (i + 1 < dgE s i)) = true then false else if isAt s (dgE s i) 46 = true then if dgE s (dgE s i + 1) = dgE s i + 1 then false else tailI s (dgE s (dgE s i + 1)) else tailI s (dgE s i) := by
  unfold bodyI
  simp only [hk, false_or, Bool.and_eq_true, decide_eq_true_eq]
theorem tail_no {s : List UInt8} {i : Int} (h : false = (isAt s i 101 || isAt s i 69)) : tailI s i = (i == (s.length : Int)) := by
  have h1 := Bool.or_eq_false_iff.1 h.symm
  unfold tailI
  rw [h1.1, h1.2, if_neg (by simp)]
theorem tail_yes {s : List UInt8} {i : Int} (h : true = (isAt s i 101 || isAt s i 69)) : tailI s i = if (isAt s (i + 1) 43 || isAt s (i + 1) 45) = true then (if dgE s (i + 1 + 1) = i + 1 + 1 then false else dgE s (i + 1 + 1) == (s.length : Int)) else (if dgE s (i + 1) = i + 1 then false else dgE s (i + 1) == (s.length : Int)) := by
  have h1 : isAt s i 101 = true ∨ isAt s i 69 = true := by simpa using h.symm
  unfold tailI
  rw [if_pos h1]
  simp only [Bool.or_eq_true]

set_option maxHeartbeats 4000000 in
theorem ref_Number (hB : Lib.BytesAt W A s.length s) (hs : s.length ≤ 2097152) :
    Calls Tryd.prog 16 #[.slice A s.length c] W fun e w' => e = .returned (.bool (numI s)) ∧ w' = W := by
  obtain ⟨res, hres⟩ : ∃ r, r = numI s := ⟨_, rfl⟩
  rw [← hres]
  have HIS : Hid (∀ (d : UInt8) (i dd : Int), dd = (d.toNat : Nat) → 0 ≤ i → Calls Tryd.prog 26 #[.slice A s.length c, .int .i64 i, .int .u8 dd] W fun e w' => e = .returned (.bool (isAt s i d)) ∧ w' = W) := fun d i dd hd h0 => by
    obtain ⟨n, rfl⟩ := Int.eq_ofNat_of_zero_le h0
    subst hd
    exact ref_is hB n d
  have HDG : Hid (∀ (i : Int), 0 ≤ i → i ≤ 4194304 → Calls Tryd.prog 27 #[.slice A s.length c, .int .i64 i] W fun e w' => e = .returned (.int .i64 (dgE s i)) ∧ w' = W) := fun i h0 h1 => by
    obtain ⟨n, rfl⟩ := Int.eq_ofNat_of_zero_le h0
    exact ref_digits hB hs n (by omega)
  unfold numI at hres
  by_cases hm : isAt s 0 45 = true
  · rw [if_pos hm] at hres
    have HM := Lib.hid hm
    clear hm
    obtain ⟨w1, w2, w3⟩ := dg_wrap (s := s) hs (i := 1) (by decide) (by decide)
    obtain ⟨w4, w5, w6⟩ := dg_wrap (s := s) hs (i := dgE s 1 + 1) (one_nonneg (dg_nonneg (by decide))) (by rcases dgE_max (s := s) (i := 1) (by decide) with h | h <;> omega)
    by_cases hk : dgE s 1 = 1
    · have hres2 : res = false := by rw [hres, bodyI, if_pos (.inl hk)]
      subst hres2
      clear hres
      go_enter Tryd.func16, Tryd.ntmps16
      go_wp2_with (first
      | (go_at_call 26; (first
        | (with_reducible refine (HIS.out 46 _ _ (by decide) (by repeat' (first | decide | apply dg_nonneg | apply one_nonneg))).mono ?_)
        | (with_reducible refine (HIS.out 101 _ _ (by decide) (by repeat' (first | decide | apply dg_nonneg | apply one_nonneg))).mono ?_)
        | (with_reducible refine (HIS.out 69 _ _ (by decide) (by repeat' (first | decide | apply dg_nonneg | apply one_nonneg))).mono ?_)
        | (with_reducible refine (HIS.out 43 _ _ (by decide) (by repeat' (first | decide | apply dg_nonneg | apply one_nonneg))).mono ?_)
        | (with_reducible refine (HIS.out 45 _ _ (by decide) (by repeat' (first | decide | apply dg_nonneg | apply one_nonneg))).mono ?_)); rintro e' wz ⟨rfl, hwz⟩; have hwz := hwz.symm; subst hwz; try rw [HM.out])
      | (go_at_call 27; (with_reducible refine (HDG.out _ (by repeat' (first | decide | apply dg_nonneg | apply one_nonneg)) (by first | decide | omega)).mono ?_); rintro e' wz ⟨rfl, hwz⟩; have hwz := hwz.symm; subst hwz))
      go_ret
      exact ⟨rfl, rfl⟩
    · have hlt := dgE_lt (by decide) hk
      obtain ⟨g, o, rfl, hc⟩ := hB (by omega)
      have hcq := hc 1 (by omega)
      have hat : ((((s.getD 1 0).toNat : Nat) : Int) == 48) = isAt s 1 48 := by
        rw [cmpE (k := 48) 48 rfl, isAt, List.getD_eq_getElem?_getD]
        show _ = (s[1]? == some 48)
        rw [List.getElem?_eq_getElem (by omega)]
        rfl
      have hl : (1 : Int) < (s.length : Int) := by omega
      try simp only [Nat.add_zero] at hcq
      generalize s.getD 1 0 = y at hcq hat
      obtain ⟨z, hz⟩ : ∃ z, z = (isAt s 1 48 && decide (1 + 1 < dgE s 1)) := ⟨_, rfl⟩
      rw [bodyI_bad hk, ← hz] at hres
      have HZ := Lib.hid hz
      have HRES := Lib.hid hres
      clear hres hB hc hz hlt
      go_enter Tryd.func16, Tryd.ntmps16
      go_upto_region 5 with ((first
      | (go_at_call 26; (first
        | (with_reducible refine (HIS.out 46 _ _ (by decide) (by repeat' (first | decide | apply dg_nonneg | apply one_nonneg))).mono ?_)
        | (with_reducible refine (HIS.out 101 _ _ (by decide) (by repeat' (first | decide | apply dg_nonneg | apply one_nonneg))).mono ?_)
        | (with_reducible refine (HIS.out 69 _ _ (by decide) (by repeat' (first | decide | apply dg_nonneg | apply one_nonneg))).mono ?_)
        | (with_reducible refine (HIS.out 43 _ _ (by decide) (by repeat' (first | decide | apply dg_nonneg | apply one_nonneg))).mono ?_)
        | (with_reducible refine (HIS.out 45 _ _ (by decide) (by repeat' (first | decide | apply dg_nonneg | apply one_nonneg))).mono ?_)); rintro e' wz ⟨rfl, hwz⟩; have hwz := hwz.symm; subst hwz; try rw [HM.out])
      | (go_at_call 27; (with_reducible refine (HDG.out _ (by repeat' (first | decide | apply dg_nonneg | apply one_nonneg)) (by first | decide | omega)).mono ?_); rintro e' wz ⟨rfl, hwz⟩; have hwz := hwz.symm; subst hwz)))
      go_cut [25] (fun v wx => v = .bool z ∧ wx = W)
      case first =>
        go_wp2_with fail
        all_goals go_meet
        all_goals refine ⟨?_, rfl⟩
        all_goals (rw [HZ.out, ← hat]; simp [*])
      case rest =>
        obtain ⟨rfl, hw⟩ := hcut
        have hw := hw.symm
        subst hw
        clear hat hcq
        cases z with
        | true =>
          go_wp2_with fail
          go_ret
          exact ⟨HRES.out.symm ▸ rfl, rfl⟩
        | false =>
          simp only [Bool.false_eq_true, if_false] at HRES
          by_cases hp : isAt s (dgE s 1) 46 = true
          · rw [if_pos hp] at HRES
            have HP := Lib.hid hp
            clear hp
            by_cases hk2 : dgE s (dgE s 1 + 1) = dgE s 1 + 1
            · rw [if_pos hk2] at HRES
              go_wp2_with (first
              | (go_at_call 26; (first
                | (with_reducible refine (HIS.out 46 _ _ (by decide) (by repeat' (first | decide | apply dg_nonneg | apply one_nonneg))).mono ?_)
                | (with_reducible refine (HIS.out 101 _ _ (by decide) (by repeat' (first | decide | apply dg_nonneg | apply one_nonneg))).mono ?_)
                | (with_reducible refine (HIS.out 69 _ _ (by decide) (by repeat' (first | decide | apply dg_nonneg | apply one_nonneg))).mono ?_)
                | (with_reducible refine (HIS.out 43 _ _ (by decide) (by repeat' (first | decide | apply dg_nonneg | apply one_nonneg))).mono ?_)
                | (with_reducible refine (HIS.out 45 _ _ (by decide) (by repeat' (first | decide | apply dg_nonneg | apply one_nonneg))).mono ?_)); rintro e' wz ⟨rfl, hwz⟩; have hwz := hwz.symm; subst hwz; try rw [HP.out])
              | (go_at_call 27; (with_reducible refine (HDG.out _ (by repeat' (first | decide | apply dg_nonneg | apply one_nonneg)) (by first | decide | omega)).mono ?_); rintro e' wz ⟨rfl, hwz⟩; have hwz := hwz.symm; subst hwz))
              go_ret
              exact ⟨HRES.out.symm ▸ rfl, rfl⟩
            · rw [if_neg hk2] at HRES
              obtain ⟨x, hx⟩ : ∃ x, x = (isAt s (dgE s (dgE s 1 + 1)) 101 || isAt s (dgE s (dgE s 1 + 1)) 69) := ⟨_, rfl⟩
              have HX := Lib.hid hx
              clear hx
              go_upto_region 13 with ((first
              | (go_at_call 26; (first
                | (with_reducible refine (HIS.out 46 _ _ (by decide) (by repeat' (first | decide | apply dg_nonneg | apply one_nonneg))).mono ?_)
                | (with_reducible refine (HIS.out 101 _ _ (by decide) (by repeat' (first | decide | apply dg_nonneg | apply one_nonneg))).mono ?_)
                | (with_reducible refine (HIS.out 69 _ _ (by decide) (by repeat' (first | decide | apply dg_nonneg | apply one_nonneg))).mono ?_)
                | (with_reducible refine (HIS.out 43 _ _ (by decide) (by repeat' (first | decide | apply dg_nonneg | apply one_nonneg))).mono ?_)
                | (with_reducible refine (HIS.out 45 _ _ (by decide) (by repeat' (first | decide | apply dg_nonneg | apply one_nonneg))).mono ?_)); rintro e' wz ⟨rfl, hwz⟩; have hwz := hwz.symm; subst hwz; try rw [HP.out])
              | (go_at_call 27; (with_reducible refine (HDG.out _ (by repeat' (first | decide | apply dg_nonneg | apply one_nonneg)) (by first | decide | omega)).mono ?_); rintro e' wz ⟨rfl, hwz⟩; have hwz := hwz.symm; subst hwz)))
              go_cut [46] (fun v wx => v = .bool x ∧ wx = W)
              case first =>
                go_wp2_with (first
                | (go_at_call 26; (first
                  | (with_reducible refine (HIS.out 46 _ _ (by decide) (by repeat' (first | decide | apply dg_nonneg | apply one_nonneg))).mono ?_)
                  | (with_reducible refine (HIS.out 101 _ _ (by decide) (by repeat' (first | decide | apply dg_nonneg | apply one_nonneg))).mono ?_)
                  | (with_reducible refine (HIS.out 69 _ _ (by decide) (by repeat' (first | decide | apply dg_nonneg | apply one_nonneg))).mono ?_)
                  | (with_reducible refine (HIS.out 43 _ _ (by decide) (by repeat' (first | decide | apply dg_nonneg | apply one_nonneg))).mono ?_)
                  | (with_reducible refine (HIS.out 45 _ _ (by decide) (by repeat' (first | decide | apply dg_nonneg | apply one_nonneg))).mono ?_)); rintro e' wz ⟨rfl, hwz⟩; have hwz := hwz.symm; subst hwz; try rw [HP.out])
                | (go_at_call 27; (with_reducible refine (HDG.out _ (by repeat' (first | decide | apply dg_nonneg | apply one_nonneg)) (by first | decide | omega)).mono ?_); rintro e' wz ⟨rfl, hwz⟩; have hwz := hwz.symm; subst hwz))
                all_goals go_meet
                all_goals refine ⟨?_, rfl⟩
                all_goals (rw [HX.out]; simp [*])
              case rest =>
                obtain ⟨rfl, hw⟩ := hcut
                have hw := hw.symm
                subst hw
                cases x with
                | false =>
                  go_wp2_with (first
                  | (go_at_call 26; (first
                    | (with_reducible refine (HIS.out 46 _ _ (by decide) (by repeat' (first | decide | apply dg_nonneg | apply one_nonneg))).mono ?_)
                    | (with_reducible refine (HIS.out 101 _ _ (by decide) (by repeat' (first | decide | apply dg_nonneg | apply one_nonneg))).mono ?_)
                    | (with_reducible refine (HIS.out 69 _ _ (by decide) (by repeat' (first | decide | apply dg_nonneg | apply one_nonneg))).mono ?_)
                    | (with_reducible refine (HIS.out 43 _ _ (by decide) (by repeat' (first | decide | apply dg_nonneg | apply one_nonneg))).mono ?_)
                    | (with_reducible refine (HIS.out 45 _ _ (by decide) (by repeat' (first | decide | apply dg_nonneg | apply one_nonneg))).mono ?_)); rintro e' wz ⟨rfl, hwz⟩; have hwz := hwz.symm; subst hwz; try rw [HP.out])
                  | (go_at_call 27; (with_reducible refine (HDG.out _ (by repeat' (first | decide | apply dg_nonneg | apply one_nonneg)) (by first | decide | omega)).mono ?_); rintro e' wz ⟨rfl, hwz⟩; have hwz := hwz.symm; subst hwz))
                  go_ret
                  refine ⟨?_, rfl⟩
                  rw [HRES.out, tail_no HX.out]
                  rfl
                | true =>
                  rw [tail_yes HX.out] at HRES
                  obtain ⟨y, hy⟩ : ∃ y, y = (isAt s ((dgE s (dgE s 1 + 1)) + 1) 43 || isAt s ((dgE s (dgE s 1 + 1)) + 1) 45) := ⟨_, rfl⟩
                  have HY := Lib.hid hy
                  clear hy
                  go_upto_region 15 with ((first
                  | (go_at_call 26; (first
                    | (with_reducible refine (HIS.out 46 _ _ (by decide) (by repeat' (first | decide | apply dg_nonneg | apply one_nonneg))).mono ?_)
                    | (with_reducible refine (HIS.out 101 _ _ (by decide) (by repeat' (first | decide | apply dg_nonneg | apply one_nonneg))).mono ?_)
                    | (with_reducible refine (HIS.out 69 _ _ (by decide) (by repeat' (first | decide | apply dg_nonneg | apply one_nonneg))).mono ?_)
                    | (with_reducible refine (HIS.out 43 _ _ (by decide) (by repeat' (first | decide | apply dg_nonneg | apply one_nonneg))).mono ?_)
                    | (with_reducible refine (HIS.out 45 _ _ (by decide) (by repeat' (first | decide | apply dg_nonneg | apply one_nonneg))).mono ?_)); rintro e' wz ⟨rfl, hwz⟩; have hwz := hwz.symm; subst hwz; try rw [HP.out])
                  | (go_at_call 27; (with_reducible refine (HDG.out _ (by repeat' (first | decide | apply dg_nonneg | apply one_nonneg)) (by first | decide | omega)).mono ?_); rintro e' wz ⟨rfl, hwz⟩; have hwz := hwz.symm; subst hwz)))
                  go_cut [56] (fun v wx => v = .bool y ∧ wx = W)
                  case first =>
                    go_wp2_with (first
                    | (go_at_call 26; (first
                      | (with_reducible refine (HIS.out 46 _ _ (by decide) (by repeat' (first | decide | apply dg_nonneg | apply one_nonneg))).mono ?_)
                      | (with_reducible refine (HIS.out 101 _ _ (by decide) (by repeat' (first | decide | apply dg_nonneg | apply one_nonneg))).mono ?_)
                      | (with_reducible refine (HIS.out 69 _ _ (by decide) (by repeat' (first | decide | apply dg_nonneg | apply one_nonneg))).mono ?_)
                      | (with_reducible refine (HIS.out 43 _ _ (by decide) (by repeat' (first | decide | apply dg_nonneg | apply one_nonneg))).mono ?_)
                      | (with_reducible refine (HIS.out 45 _ _ (by decide) (by repeat' (first | decide | apply dg_nonneg | apply one_nonneg))).mono ?_)); rintro e' wz ⟨rfl, hwz⟩; have hwz := hwz.symm; subst hwz; try rw [HP.out])
                    | (go_at_call 27; (with_reducible refine (HDG.out _ (by repeat' (first | decide | apply dg_nonneg | apply one_nonneg)) (by first | decide | omega)).mono ?_); rintro e' wz ⟨rfl, hwz⟩; have hwz := hwz.symm; subst hwz))
                    all_goals go_meet
                    all_goals refine ⟨?_, rfl⟩
                    all_goals (rw [HY.out]; simp [*])
                  case rest =>
                    obtain ⟨rfl, hw⟩ := hcut
                    have hw := hw.symm
                    subst hw
                    rw [← HY.out] at HRES
                    cases y <;> simp only [if_true, Bool.false_eq_true, if_false] at HRES
                    all_goals (go_wp2_with (first
                    | (go_at_call 26; (first
                      | (with_reducible refine (HIS.out 46 _ _ (by decide) (by repeat' (first | decide | apply dg_nonneg | apply one_nonneg))).mono ?_)
                      | (with_reducible refine (HIS.out 101 _ _ (by decide) (by repeat' (first | decide | apply dg_nonneg | apply one_nonneg))).mono ?_)
                      | (with_reducible refine (HIS.out 69 _ _ (by decide) (by repeat' (first | decide | apply dg_nonneg | apply one_nonneg))).mono ?_)
                      | (with_reducible refine (HIS.out 43 _ _ (by decide) (by repeat' (first | decide | apply dg_nonneg | apply one_nonneg))).mono ?_)
                      | (with_reducible refine (HIS.out 45 _ _ (by decide) (by repeat' (first | decide | apply dg_nonneg | apply one_nonneg))).mono ?_)); rintro e' wz ⟨rfl, hwz⟩; have hwz := hwz.symm; subst hwz; try rw [HP.out])
                    | (go_at_call 27; (with_reducible refine (HDG.out _ (by repeat' (first | decide | apply dg_nonneg | apply one_nonneg)) (by first | decide | omega)).mono ?_); rintro e' wz ⟨rfl, hwz⟩; have hwz := hwz.symm; subst hwz)))
                    all_goals go_ret
                    all_goals refine ⟨?_, rfl⟩
                    all_goals (rw [HRES.out]; clear HIS HDG; split <;> simp_all)
          · rw [if_neg hp] at HRES
            have HP := Lib.hid (Bool.eq_false_iff.2 hp)
            clear hp
            obtain ⟨x, hx⟩ : ∃ x, x = (isAt s (dgE s 1) 101 || isAt s (dgE s 1) 69) := ⟨_, rfl⟩
            have HX := Lib.hid hx
            clear hx
            go_upto_region 13 with ((first
            | (go_at_call 26; (first
              | (with_reducible refine (HIS.out 46 _ _ (by decide) (by repeat' (first | decide | apply dg_nonneg | apply one_nonneg))).mono ?_)
              | (with_reducible refine (HIS.out 101 _ _ (by decide) (by repeat' (first | decide | apply dg_nonneg | apply one_nonneg))).mono ?_)
              | (with_reducible refine (HIS.out 69 _ _ (by decide) (by repeat' (first | decide | apply dg_nonneg | apply one_nonneg))).mono ?_)
              | (with_reducible refine (HIS.out 43 _ _ (by decide) (by repeat' (first | decide | apply dg_nonneg | apply one_nonneg))).mono ?_)
              | (with_reducible refine (HIS.out 45 _ _ (by decide) (by repeat' (first | decide | apply dg_nonneg | apply one_nonneg))).mono ?_)); rintro e' wz ⟨rfl, hwz⟩; have hwz := hwz.symm; subst hwz; try rw [HP.out])
            | (go_at_call 27; (with_reducible refine (HDG.out _ (by repeat' (first | decide | apply dg_nonneg | apply one_nonneg)) (by first | decide | omega)).mono ?_); rintro e' wz ⟨rfl, hwz⟩; have hwz := hwz.symm; subst hwz)))
            go_cut [46] (fun v wx => v = .bool x ∧ wx = W)
            case first =>
              go_wp2_with (first
              | (go_at_call 26; (first
                | (with_reducible refine (HIS.out 46 _ _ (by decide) (by repeat' (first | decide | apply dg_nonneg | apply one_nonneg))).mono ?_)
                | (with_reducible refine (HIS.out 101 _ _ (by decide) (by repeat' (first | decide | apply dg_nonneg | apply one_nonneg))).mono ?_)
                | (with_reducible refine (HIS.out 69 _ _ (by decide) (by repeat' (first | decide | apply dg_nonneg | apply one_nonneg))).mono ?_)
                | (with_reducible refine (HIS.out 43 _ _ (by decide) (by repeat' (first | decide | apply dg_nonneg | apply one_nonneg))).mono ?_)
                | (with_reducible refine (HIS.out 45 _ _ (by decide) (by repeat' (first | decide | apply dg_nonneg | apply one_nonneg))).mono ?_)); rintro e' wz ⟨rfl, hwz⟩; have hwz := hwz.symm; subst hwz; try rw [HP.out])
              | (go_at_call 27; (with_reducible refine (HDG.out _ (by repeat' (first | decide | apply dg_nonneg | apply one_nonneg)) (by first | decide | omega)).mono ?_); rintro e' wz ⟨rfl, hwz⟩; have hwz := hwz.symm; subst hwz))
              all_goals go_meet
              all_goals refine ⟨?_, rfl⟩
              all_goals (rw [HX.out]; simp [*])
            case rest =>
              obtain ⟨rfl, hw⟩ := hcut
              have hw := hw.symm
              subst hw
              cases x with
              | false =>
                go_wp2_with (first
                | (go_at_call 26; (first
                  | (with_reducible refine (HIS.out 46 _ _ (by decide) (by repeat' (first | decide | apply dg_nonneg | apply one_nonneg))).mono ?_)
                  | (with_reducible refine (HIS.out 101 _ _ (by decide) (by repeat' (first | decide | apply dg_nonneg | apply one_nonneg))).mono ?_)
                  | (with_reducible refine (HIS.out 69 _ _ (by decide) (by repeat' (first | decide | apply dg_nonneg | apply one_nonneg))).mono ?_)
                  | (with_reducible refine (HIS.out 43 _ _ (by decide) (by repeat' (first | decide | apply dg_nonneg | apply one_nonneg))).mono ?_)
                  | (with_reducible refine (HIS.out 45 _ _ (by decide) (by repeat' (first | decide | apply dg_nonneg | apply one_nonneg))).mono ?_)); rintro e' wz ⟨rfl, hwz⟩; have hwz := hwz.symm; subst hwz; try rw [HP.out])
                | (go_at_call 27; (with_reducible refine (HDG.out _ (by repeat' (first | decide | apply dg_nonneg | apply one_nonneg)) (by first | decide | omega)).mono ?_); rintro e' wz ⟨rfl, hwz⟩; have hwz := hwz.symm; subst hwz))
                go_ret
                refine ⟨?_, rfl⟩
                rw [HRES.out, tail_no HX.out]
                rfl
              | true =>
                rw [tail_yes HX.out] at HRES
                obtain ⟨y, hy⟩ : ∃ y, y = (isAt s ((dgE s 1) + 1) 43 || isAt s ((dgE s 1) + 1) 45) := ⟨_, rfl⟩
                have HY := Lib.hid hy
                clear hy
                go_upto_region 15 with ((first
                | (go_at_call 26; (first
                  | (with_reducible refine (HIS.out 46 _ _ (by decide) (by repeat' (first | decide | apply dg_nonneg | apply one_nonneg))).mono ?_)
                  | (with_reducible refine (HIS.out 101 _ _ (by decide) (by repeat' (first | decide | apply dg_nonneg | apply one_nonneg))).mono ?_)
                  | (with_reducible refine (HIS.out 69 _ _ (by decide) (by repeat' (first | decide | apply dg_nonneg | apply one_nonneg))).mono ?_)
                  | (with_reducible refine (HIS.out 43 _ _ (by decide) (by repeat' (first | decide | apply dg_nonneg | apply one_nonneg))).mono ?_)
                  | (with_reducible refine (HIS.out 45 _ _ (by decide) (by repeat' (first | decide | apply dg_nonneg | apply one_nonneg))).mono ?_)); rintro e' wz ⟨rfl, hwz⟩; have hwz := hwz.symm; subst hwz; try rw [HP.out])
                | (go_at_call 27; (with_reducible refine (HDG.out _ (by repeat' (first | decide | apply dg_nonneg | apply one_nonneg)) (by first | decide | omega)).mono ?_); rintro e' wz ⟨rfl, hwz⟩; have hwz := hwz.symm; subst hwz)))
                go_cut [56] (fun v wx => v = .bool y ∧ wx = W)
                case first =>
                  go_wp2_with (first
                  | (go_at_call 26; (first
                    | (with_reducible refine (HIS.out 46 _ _ (by decide) (by repeat' (first | decide | apply dg_nonneg | apply one_nonneg))).mono ?_)
                    | (with_reducible refine (HIS.out 101 _ _ (by decide) (by repeat' (first | decide | apply dg_nonneg | apply one_nonneg))).mono ?_)
                    | (with_reducible refine (HIS.out 69 _ _ (by decide) (by repeat' (first | decide | apply dg_nonneg | apply one_nonneg))).mono ?_)
                    | (with_reducible refine (HIS.out 43 _ _ (by decide) (by repeat' (first | decide | apply dg_nonneg | apply one_nonneg))).mono ?_)
                    | (with_reducible refine (HIS.out 45 _ _ (by decide) (by repeat' (first | decide | apply dg_nonneg | apply one_nonneg))).mono ?_)); rintro e' wz ⟨rfl, hwz⟩; have hwz := hwz.symm; subst hwz; try rw [HP.out])
                  | (go_at_call 27; (with_reducible refine (HDG.out _ (by repeat' (first | decide | apply dg_nonneg | apply one_nonneg)) (by first | decide | omega)).mono ?_); rintro e' wz ⟨rfl, hwz⟩; have hwz := hwz.symm; subst hwz))
                  all_goals go_meet
                  all_goals refine ⟨?_, rfl⟩
                  all_goals (rw [HY.out]; simp [*])
                case rest =>
                  obtain ⟨rfl, hw⟩ := hcut
                  have hw := hw.symm
                  subst hw
                  rw [← HY.out] at HRES
                  cases y <;> simp only [if_true, Bool.false_eq_true, if_false] at HRES
                  all_goals (go_wp2_with (first
                  | (go_at_call 26; (first
                    | (with_reducible refine (HIS.out 46 _ _ (by decide) (by repeat' (first | decide | apply dg_nonneg | apply one_nonneg))).mono ?_)
                    | (with_reducible refine (HIS.out 101 _ _ (by decide) (by repeat' (first | decide | apply dg_nonneg | apply one_nonneg))).mono ?_)
                    | (with_reducible refine (HIS.out 69 _ _ (by decide) (by repeat' (first | decide | apply dg_nonneg | apply one_nonneg))).mono ?_)
                    | (with_reducible refine (HIS.out 43 _ _ (by decide) (by repeat' (first | decide | apply dg_nonneg | apply one_nonneg))).mono ?_)
                    | (with_reducible refine (HIS.out 45 _ _ (by decide) (by repeat' (first | decide | apply dg_nonneg | apply one_nonneg))).mono ?_)); rintro e' wz ⟨rfl, hwz⟩; have hwz := hwz.symm; subst hwz; try rw [HP.out])
                  | (go_at_call 27; (with_reducible refine (HDG.out _ (by repeat' (first | decide | apply dg_nonneg | apply one_nonneg)) (by first | decide | omega)).mono ?_); rintro e' wz ⟨rfl, hwz⟩; have hwz := hwz.symm; subst hwz)))
                  all_goals go_ret
                  all_goals refine ⟨?_, rfl⟩
                  all_goals (rw [HRES.out]; clear HIS HDG; split <;> simp_all)
  · rw [if_neg hm] at hres
    have HM := Lib.hid (Bool.eq_false_iff.2 hm)
    clear hm
    obtain ⟨w1, w2, w3⟩ := dg_wrap (s := s) hs (i := 0) (by decide) (by decide)
    obtain ⟨w4, w5, w6⟩ := dg_wrap (s := s) hs (i := dgE s 0 + 1) (one_nonneg (dg_nonneg (by decide))) (by rcases dgE_max (s := s) (i := 0) (by decide) with h | h <;> omega)
    by_cases hk : dgE s 0 = 0
    · have hres2 : res = false := by rw [hres, bodyI, if_pos (.inl hk)]
      subst hres2
      clear hres
      go_enter Tryd.func16, Tryd.ntmps16
      go_wp2_with (first
      | (go_at_call 26; (first
        | (with_reducible refine (HIS.out 46 _ _ (by decide) (by repeat' (first | decide | apply dg_nonneg | apply one_nonneg))).mono ?_)
        | (with_reducible refine (HIS.out 101 _ _ (by decide) (by repeat' (first | decide | apply dg_nonneg | apply one_nonneg))).mono ?_)
        | (with_reducible refine (HIS.out 69 _ _ (by decide) (by repeat' (first | decide | apply dg_nonneg | apply one_nonneg))).mono ?_)
        | (with_reducible refine (HIS.out 43 _ _ (by decide) (by repeat' (first | decide | apply dg_nonneg | apply one_nonneg))).mono ?_)
        | (with_reducible refine (HIS.out 45 _ _ (by decide) (by repeat' (first | decide | apply dg_nonneg | apply one_nonneg))).mono ?_)); rintro e' wz ⟨rfl, hwz⟩; have hwz := hwz.symm; subst hwz; try rw [HM.out])
      | (go_at_call 27; (with_reducible refine (HDG.out _ (by repeat' (first | decide | apply dg_nonneg | apply one_nonneg)) (by first | decide | omega)).mono ?_); rintro e' wz ⟨rfl, hwz⟩; have hwz := hwz.symm; subst hwz))
      go_ret
      exact ⟨rfl, rfl⟩
    · have hlt := dgE_lt (by decide) hk
      obtain ⟨g, o, rfl, hc⟩ := hB (by omega)
      have hcq := hc 0 (by omega)
      have hat : ((((s.getD 0 0).toNat : Nat) : Int) == 48) = isAt s 0 48 := by
        rw [cmpE (k := 48) 48 rfl, isAt, List.getD_eq_getElem?_getD]
        show _ = (s[0]? == some 48)
        rw [List.getElem?_eq_getElem (by omega)]
        rfl
      have hl : (0 : Int) < (s.length : Int) := by omega
      try simp only [Nat.add_zero] at hcq
      generalize s.getD 0 0 = y at hcq hat
      obtain ⟨z, hz⟩ : ∃ z, z = (isAt s 0 48 && decide (0 + 1 < dgE s 0)) := ⟨_, rfl⟩
      rw [bodyI_bad hk, ← hz] at hres
      have HZ := Lib.hid hz
      have HRES := Lib.hid hres
      clear hres hB hc hz hlt
      go_enter Tryd.func16, Tryd.ntmps16
      go_upto_region 5 with ((first
      | (go_at_call 26; (first
        | (with_reducible refine (HIS.out 46 _ _ (by decide) (by repeat' (first | decide | apply dg_nonneg | apply one_nonneg))).mono ?_)
        | (with_reducible refine (HIS.out 101 _ _ (by decide) (by repeat' (first | decide | apply dg_nonneg | apply one_nonneg))).mono ?_)
        | (with_reducible refine (HIS.out 69 _ _ (by decide) (by repeat' (first | decide | apply dg_nonneg | apply one_nonneg))).mono ?_)
        | (with_reducible refine (HIS.out 43 _ _ (by decide) (by repeat' (first | decide | apply dg_nonneg | apply one_nonneg))).mono ?_)
        | (with_reducible refine (HIS.out 45 _ _ (by decide) (by repeat' (first | decide | apply dg_nonneg | apply one_nonneg))).mono ?_)); rintro e' wz ⟨rfl, hwz⟩; have hwz := hwz.symm; subst hwz; try rw [HM.out])
      | (go_at_call 27; (with_reducible refine (HDG.out _ (by repeat' (first | decide | apply dg_nonneg | apply one_nonneg)) (by first | decide | omega)).mono ?_); rintro e' wz ⟨rfl, hwz⟩; have hwz := hwz.symm; subst hwz)))
      go_cut [25] (fun v wx => v = .bool z ∧ wx = W)
      case first =>
        go_wp2_with fail
        all_goals go_meet
        all_goals refine ⟨?_, rfl⟩
        all_goals (rw [HZ.out, ← hat]; simp [*])
      case rest =>
        obtain ⟨rfl, hw⟩ := hcut
        have hw := hw.symm
        subst hw
        clear hat hcq
        cases z with
        | true =>
          go_wp2_with fail
          go_ret
          exact ⟨HRES.out.symm ▸ rfl, rfl⟩
        | false =>
          simp only [Bool.false_eq_true, if_false] at HRES
          by_cases hp : isAt s (dgE s 0) 46 = true
          · rw [if_pos hp] at HRES
            have HP := Lib.hid hp
            clear hp
            by_cases hk2 : dgE s (dgE s 0 + 1) = dgE s 0 + 1
            · rw [if_pos hk2] at HRES
              go_wp2_with (first
              | (go_at_call 26; (first
                | (with_reducible refine (HIS.out 46 _ _ (by decide) (by repeat' (first | decide | apply dg_nonneg | apply one_nonneg))).mono ?_)
                | (with_reducible refine (HIS.out 101 _ _ (by decide) (by repeat' (first | decide | apply dg_nonneg | apply one_nonneg))).mono ?_)
                | (with_reducible refine (HIS.out 69 _ _ (by decide) (by repeat' (first | decide | apply dg_nonneg | apply one_nonneg))).mono ?_)
                | (with_reducible refine (HIS.out 43 _ _ (by decide) (by repeat' (first | decide | apply dg_nonneg | apply one_nonneg))).mono ?_)
                | (with_reducible refine (HIS.out 45 _ _ (by decide) (by repeat' (first | decide | apply dg_nonneg | apply one_nonneg))).mono ?_)); rintro e' wz ⟨rfl, hwz⟩; have hwz := hwz.symm; subst hwz; try rw [HP.out])
              | (go_at_call 27; (with_reducible refine (HDG.out _ (by repeat' (first | decide | apply dg_nonneg | apply one_nonneg)) (by first | decide | omega)).mono ?_); rintro e' wz ⟨rfl, hwz⟩; have hwz := hwz.symm; subst hwz))
              go_ret
              exact ⟨HRES.out.symm ▸ rfl, rfl⟩
            · rw [if_neg hk2] at HRES
              obtain ⟨x, hx⟩ : ∃ x, x = (isAt s (dgE s (dgE s 0 + 1)) 101 || isAt s (dgE s (dgE s 0 + 1)) 69) := ⟨_, rfl⟩
              have HX := Lib.hid hx
              clear hx
              go_upto_region 13 with ((first
              | (go_at_call 26; (first
                | (with_reducible refine (HIS.out 46 _ _ (by decide) (by repeat' (first | decide | apply dg_nonneg | apply one_nonneg))).mono ?_)
                | (with_reducible refine (HIS.out 101 _ _ (by decide) (by repeat' (first | decide | apply dg_nonneg | apply one_nonneg))).mono ?_)
                | (with_reducible refine (HIS.out 69 _ _ (by decide) (by repeat' (first | decide | apply dg_nonneg | apply one_nonneg))).mono ?_)
                | (with_reducible refine (HIS.out 43 _ _ (by decide) (by repeat' (first | decide | apply dg_nonneg | apply one_nonneg))).mono ?_)
                | (with_reducible refine (HIS.out 45 _ _ (by decide) (by repeat' (first | decide | apply dg_nonneg | apply one_nonneg))).mono ?_)); rintro e' wz ⟨rfl, hwz⟩; have hwz := hwz.symm; subst hwz; try rw [HP.out])
              | (go_at_call 27; (with_reducible refine (HDG.out _ (by repeat' (first | decide | apply dg_nonneg | apply one_nonneg)) (by first | decide | omega)).mono ?_); rintro e' wz ⟨rfl, hwz⟩; have hwz := hwz.symm; subst hwz)))
              go_cut [46] (fun v wx => v = .bool x ∧ wx = W)
              case first =>
                go_wp2_with (first
                | (go_at_call 26; (first
                  | (with_reducible refine (HIS.out 46 _ _ (by decide) (by repeat' (first | decide | apply dg_nonneg | apply one_nonneg))).mono ?_)
                  | (with_reducible refine (HIS.out 101 _ _ (by decide) (by repeat' (first | decide | apply dg_nonneg | apply one_nonneg))).mono ?_)
                  | (with_reducible refine (HIS.out 69 _ _ (by decide) (by repeat' (first | decide | apply dg_nonneg | apply one_nonneg))).mono ?_)
                  | (with_reducible refine (HIS.out 43 _ _ (by decide) (by repeat' (first | decide | apply dg_nonneg | apply one_nonneg))).mono ?_)
                  | (with_reducible refine (HIS.out 45 _ _ (by decide) (by repeat' (first | decide | apply dg_nonneg | apply one_nonneg))).mono ?_)); rintro e' wz ⟨rfl, hwz⟩; have hwz := hwz.symm; subst hwz; try rw [HP.out])
                | (go_at_call 27; (with_reducible refine (HDG.out _ (by repeat' (first | decide | apply dg_nonneg | apply one_nonneg)) (by first | decide | omega)).mono ?_); rintro e' wz ⟨rfl, hwz⟩; have hwz := hwz.symm; subst hwz))
                all_goals go_meet
                all_goals refine ⟨?_, rfl⟩
                all_goals (rw [HX.out]; simp [*])
              case rest =>
                obtain ⟨rfl, hw⟩ := hcut
                have hw := hw.symm
                subst hw
                cases x with
                | false =>
                  go_wp2_with (first
                  | (go_at_call 26; (first
                    | (with_reducible refine (HIS.out 46 _ _ (by decide) (by repeat' (first | decide | apply dg_nonneg | apply one_nonneg))).mono ?_)
                    | (with_reducible refine (HIS.out 101 _ _ (by decide) (by repeat' (first | decide | apply dg_nonneg | apply one_nonneg))).mono ?_)
                    | (with_reducible refine (HIS.out 69 _ _ (by decide) (by repeat' (first | decide | apply dg_nonneg | apply one_nonneg))).mono ?_)
                    | (with_reducible refine (HIS.out 43 _ _ (by decide) (by repeat' (first | decide | apply dg_nonneg | apply one_nonneg))).mono ?_)
                    | (with_reducible refine (HIS.out 45 _ _ (by decide) (by repeat' (first | decide | apply dg_nonneg | apply one_nonneg))).mono ?_)); rintro e' wz ⟨rfl, hwz⟩; have hwz := hwz.symm; subst hwz; try rw [HP.out])
                  | (go_at_call 27; (with_reducible refine (HDG.out _ (by repeat' (first | decide | apply dg_nonneg | apply one_nonneg)) (by first | decide | omega)).mono ?_); rintro e' wz ⟨rfl, hwz⟩; have hwz := hwz.symm; subst hwz))
                  go_ret
                  refine ⟨?_, rfl⟩
                  rw [HRES.out, tail_no HX.out]
                  rfl
                | true =>
                  rw [tail_yes HX.out] at HRES
                  obtain ⟨y, hy⟩ : ∃ y, y = (isAt s ((dgE s (dgE s 0 + 1)) + 1) 43 || isAt s ((dgE s (dgE s 0 + 1)) + 1) 45) := ⟨_, rfl⟩
                  have HY := Lib.hid hy
                  clear hy
                  go_upto_region 15 with ((first
                  | (go_at_call 26; (first
                    | (with_reducible refine (HIS.out 46 _ _ (by decide) (by repeat' (first | decide | apply dg_nonneg | apply one_nonneg))).mono ?_)
                    | (with_reducible refine (HIS.out 101 _ _ (by decide) (by repeat' (first | decide | apply dg_nonneg | apply one_nonneg))).mono ?_)
                    | (with_reducible refine (HIS.out 69 _ _ (by decide) (by repeat' (first | decide | apply dg_nonneg | apply one_nonneg))).mono ?_)
                    | (with_reducible refine (HIS.out 43 _ _ (by decide) (by repeat' (first | decide | apply dg_nonneg | apply one_nonneg))).mono ?_)
                    | (with_reducible refine (HIS.out 45 _ _ (by decide) (by repeat' (first | decide | apply dg_nonneg | apply one_nonneg))).mono ?_)); rintro e' wz ⟨rfl, hwz⟩; have hwz := hwz.symm; subst hwz; try rw [HP.out])
                  | (go_at_call 27; (with_reducible refine (HDG.out _ (by repeat' (first | decide | apply dg_nonneg | apply one_nonneg)) (by first | decide | omega)).mono ?_); rintro e' wz ⟨rfl, hwz⟩; have hwz := hwz.symm; subst hwz)))
                  go_cut [56] (fun v wx => v = .bool y ∧ wx = W)
                  case first =>
                    go_wp2_with (first
                    | (go_at_call 26; (first
                      | (with_reducible refine (HIS.out 46 _ _ (by decide) (by repeat' (first | decide | apply dg_nonneg | apply one_nonneg))).mono ?_)
                      | (with_reducible refine (HIS.out 101 _ _ (by decide) (by repeat' (first | decide | apply dg_nonneg | apply one_nonneg))).mono ?_)
                      | (with_reducible refine (HIS.out 69 _ _ (by decide) (by repeat' (first | decide | apply dg_nonneg | apply one_nonneg))).mono ?_)
                      | (with_reducible refine (HIS.out 43 _ _ (by decide) (by repeat' (first | decide | apply dg_nonneg | apply one_nonneg))).mono ?_)
                      | (with_reducible refine (HIS.out 45 _ _ (by decide) (by repeat' (first | decide | apply dg_nonneg | apply one_nonneg))).mono ?_)); rintro e' wz ⟨rfl, hwz⟩; have hwz := hwz.symm; subst hwz; try rw [HP.out])
                    | (go_at_call 27; (with_reducible refine (HDG.out _ (by repeat' (first | decide | apply dg_nonneg | apply one_nonneg)) (by first | decide | omega)).mono ?_); rintro e' wz ⟨rfl, hwz⟩; have hwz := hwz.symm; subst hwz))
                    all_goals go_meet
                    all_goals refine ⟨?_, rfl⟩
                    all_goals (rw [HY.out]; simp [*])
                  case rest =>
                    obtain ⟨rfl, hw⟩ := hcut
                    have hw := hw.symm
                    subst hw
                    rw [← HY.out] at HRES
                    cases y <;> simp only [if_true, Bool.false_eq_true, if_false] at HRES
                    all_goals (go_wp2_with (first
                    | (go_at_call 26; (first
                      | (with_reducible refine (HIS.out 46 _ _ (by decide) (by repeat' (first | decide | apply dg_nonneg | apply one_nonneg))).mono ?_)
                      | (with_reducible refine (HIS.out 101 _ _ (by decide) (by repeat' (first | decide | apply dg_nonneg | apply one_nonneg))).mono ?_)
                      | (with_reducible refine (HIS.out 69 _ _ (by decide) (by repeat' (first | decide | apply dg_nonneg | apply one_nonneg))).mono ?_)
                      | (with_reducible refine (HIS.out 43 _ _ (by decide) (by repeat' (first | decide | apply dg_nonneg | apply one_nonneg))).mono ?_)
                      | (with_reducible refine (HIS.out 45 _ _ (by decide) (by repeat' (first | decide | apply dg_nonneg | apply one_nonneg))).mono ?_)); rintro e' wz ⟨rfl, hwz⟩; have hwz := hwz.symm; subst hwz; try rw [HP.out])
                    | (go_at_call 27; (with_reducible refine (HDG.out _ (by repeat' (first | decide | apply dg_nonneg | apply one_nonneg)) (by first | decide | omega)).mono ?_); rintro e' wz ⟨rfl, hwz⟩; have hwz := hwz.symm; subst hwz)))
                    all_goals go_ret
                    all_goals refine ⟨?_, rfl⟩
                    all_goals (rw [HRES.out]; clear HIS HDG; split <;> simp_all)
          · rw [if_neg hp] at HRES
            have HP := Lib.hid (Bool.eq_false_iff.2 hp)
            clear hp
            obtain ⟨x, hx⟩ : ∃ x, x = (isAt s (dgE s 0) 101 || isAt s (dgE s 0) 69) := ⟨_, rfl⟩
            have HX := Lib.hid hx
            clear hx
            go_upto_region 13 with ((first
            | (go_at_call 26; (first
              | (with_reducible refine (HIS.out 46 _ _ (by decide) (by repeat' (first | decide | apply dg_nonneg | apply one_nonneg))).mono ?_)
              | (with_reducible refine (HIS.out 101 _ _ (by decide) (by repeat' (first | decide | apply dg_nonneg | apply one_nonneg))).mono ?_)
              | (with_reducible refine (HIS.out 69 _ _ (by decide) (by repeat' (first | decide | apply dg_nonneg | apply one_nonneg))).mono ?_)
              | (with_reducible refine (HIS.out 43 _ _ (by decide) (by repeat' (first | decide | apply dg_nonneg | apply one_nonneg))).mono ?_)
              | (with_reducible refine (HIS.out 45 _ _ (by decide) (by repeat' (first | decide | apply dg_nonneg | apply one_nonneg))).mono ?_)); rintro e' wz ⟨rfl, hwz⟩; have hwz := hwz.symm; subst hwz; try rw [HP.out])
            | (go_at_call 27; (with_reducible refine (HDG.out _ (by repeat' (first | decide | apply dg_nonneg | apply one_nonneg)) (by first | decide | omega)).mono ?_); rintro e' wz ⟨rfl, hwz⟩; have hwz := hwz.symm; subst hwz)))
            go_cut [46] (fun v wx => v = .bool x ∧ wx = W)
            case first =>
              go_wp2_with (first
              | (go_at_call 26; (first
                | (with_reducible refine (HIS.out 46 _ _ (by decide) (by repeat' (first | decide | apply dg_nonneg | apply one_nonneg))).mono ?_)
                | (with_reducible refine (HIS.out 101 _ _ (by decide) (by repeat' (first | decide | apply dg_nonneg | apply one_nonneg))).mono ?_)
                | (with_reducible refine (HIS.out 69 _ _ (by decide) (by repeat' (first | decide | apply dg_nonneg | apply one_nonneg))).mono ?_)
                | (with_reducible refine (HIS.out 43 _ _ (by decide) (by repeat' (first | decide | apply dg_nonneg | apply one_nonneg))).mono ?_)
                | (with_reducible refine (HIS.out 45 _ _ (by decide) (by repeat' (first | decide | apply dg_nonneg | apply one_nonneg))).mono ?_)); rintro e' wz ⟨rfl, hwz⟩; have hwz := hwz.symm; subst hwz; try rw [HP.out])
              | (go_at_call 27; (with_reducible refine (HDG.out _ (by repeat' (first | decide | apply dg_nonneg | apply one_nonneg)) (by first | decide | omega)).mono ?_); rintro e' wz ⟨rfl, hwz⟩; have hwz := hwz.symm; subst hwz))
              all_goals go_meet
              all_goals refine ⟨?_, rfl⟩
              all_goals (rw [HX.out]; simp [*])
            case rest =>
              obtain ⟨rfl, hw⟩ := hcut
              have hw := hw.symm
              subst hw
              cases x with
              | false =>
                go_wp2_with (first
                | (go_at_call 26; (first
                  | (with_reducible refine (HIS.out 46 _ _ (by decide) (by repeat' (first | decide | apply dg_nonneg | apply one_nonneg))).mono ?_)
                  | (with_reducible refine (HIS.out 101 _ _ (by decide) (by repeat' (first | decide | apply dg_nonneg | apply one_nonneg))).mono ?_)
                  | (with_reducible refine (HIS.out 69 _ _ (by decide) (by repeat' (first | decide | apply dg_nonneg | apply one_nonneg))).mono ?_)
                  | (with_reducible refine (HIS.out 43 _ _ (by decide) (by repeat' (first | decide | apply dg_nonneg | apply one_nonneg))).mono ?_)
                  | (with_reducible refine (HIS.out 45 _ _ (by decide) (by repeat' (first | decide | apply dg_nonneg | apply one_nonneg))).mono ?_)); rintro e' wz ⟨rfl, hwz⟩; have hwz := hwz.symm; subst hwz; try rw [HP.out])
                | (go_at_call 27; (with_reducible refine (HDG.out _ (by repeat' (first | decide | apply dg_nonneg | apply one_nonneg)) (by first | decide | omega)).mono ?_); rintro e' wz ⟨rfl, hwz⟩; have hwz := hwz.symm; subst hwz))
                go_ret
                refine ⟨?_, rfl⟩
                rw [HRES.out, tail_no HX.out]
                rfl
              | true =>
                rw [tail_yes HX.out] at HRES
                obtain ⟨y, hy⟩ : ∃ y, y = (isAt s ((dgE s 0) + 1) 43 || isAt s ((dgE s 0) + 1) 45) := ⟨_, rfl⟩
                have HY := Lib.hid hy
                clear hy
                go_upto_region 15 with ((first
                | (go_at_call 26; (first
                  | (with_reducible refine (HIS.out 46 _ _ (by decide) (by repeat' (first | decide | apply dg_nonneg | apply one_nonneg))).mono ?_)
                  | (with_reducible refine (HIS.out 101 _ _ (by decide) (by repeat' (first | decide | apply dg_nonneg | apply one_nonneg))).mono ?_)
                  | (with_reducible refine (HIS.out 69 _ _ (by decide) (by repeat' (first | decide | apply dg_nonneg | apply one_nonneg))).mono ?_)
                  | (with_reducible refine (HIS.out 43 _ _ (by decide) (by repeat' (first | decide | apply dg_nonneg | apply one_nonneg))).mono ?_)
                  | (with_reducible refine (HIS.out 45 _ _ (by decide) (by repeat' (first | decide | apply dg_nonneg | apply one_nonneg))).mono ?_)); rintro e' wz ⟨rfl, hwz⟩; have hwz := hwz.symm; subst hwz; try rw [HP.out])
                | (go_at_call 27; (with_reducible refine (HDG.out _ (by repeat' (first | decide | apply dg_nonneg | apply one_nonneg)) (by first | decide | omega)).mono ?_); rintro e' wz ⟨rfl, hwz⟩; have hwz := hwz.symm; subst hwz)))
                go_cut [56] (fun v wx => v = .bool y ∧ wx = W)
                case first =>
                  go_wp2_with (first
                  | (go_at_call 26; (first
                    | (with_reducible refine (HIS.out 46 _ _ (by decide) (by repeat' (first | decide | apply dg_nonneg | apply one_nonneg))).mono ?_)
                    | (with_reducible refine (HIS.out 101 _ _ (by decide) (by repeat' (first | decide | apply dg_nonneg | apply one_nonneg))).mono ?_)
                    | (with_reducible refine (HIS.out 69 _ _ (by decide) (by repeat' (first | decide | apply dg_nonneg | apply one_nonneg))).mono ?_)
                    | (with_reducible refine (HIS.out 43 _ _ (by decide) (by repeat' (first | decide | apply dg_nonneg | apply one_nonneg))).mono ?_)
                    | (with_reducible refine (HIS.out 45 _ _ (by decide) (by repeat' (first | decide | apply dg_nonneg | apply one_nonneg))).mono ?_)); rintro e' wz ⟨rfl, hwz⟩; have hwz := hwz.symm; subst hwz; try rw [HP.out])
                  | (go_at_call 27; (with_reducible refine (HDG.out _ (by repeat' (first | decide | apply dg_nonneg | apply one_nonneg)) (by first | decide | omega)).mono ?_); rintro e' wz ⟨rfl, hwz⟩; have hwz := hwz.symm; subst hwz))
                  all_goals go_meet
                  all_goals refine ⟨?_, rfl⟩
                  all_goals (rw [HY.out]; simp [*])
                case rest =>
                  obtain ⟨rfl, hw⟩ := hcut
                  have hw := hw.symm
                  subst hw
                  rw [← HY.out] at HRES
                  cases y <;> simp only [if_true, Bool.false_eq_true, if_false] at HRES
                  all_goals (go_wp2_with (first
                  | (go_at_call 26; (first
                    | (with_reducible refine (HIS.out 46 _ _ (by decide) (by repeat' (first | decide | apply dg_nonneg | apply one_nonneg))).mono ?_)
                    | (with_reducible refine (HIS.out 101 _ _ (by decide) (by repeat' (first | decide | apply dg_nonneg | apply one_nonneg))).mono ?_)
                    | (with_reducible refine (HIS.out 69 _ _ (by decide) (by repeat' (first | decide | apply dg_nonneg | apply one_nonneg))).mono ?_)
                    | (with_reducible refine (HIS.out 43 _ _ (by decide) (by repeat' (first | decide | apply dg_nonneg | apply one_nonneg))).mono ?_)
                    | (with_reducible refine (HIS.out 45 _ _ (by decide) (by repeat' (first | decide | apply dg_nonneg | apply one_nonneg))).mono ?_)); rintro e' wz ⟨rfl, hwz⟩; have hwz := hwz.symm; subst hwz; try rw [HP.out])
                  | (go_at_call 27; (with_reducible refine (HDG.out _ (by repeat' (first | decide | apply dg_nonneg | apply one_nonneg)) (by first | decide | omega)).mono ?_); rintro e' wz ⟨rfl, hwz⟩; have hwz := hwz.symm; subst hwz)))
                  all_goals go_ret
                  all_goals refine ⟨?_, rfl⟩
                  all_goals (rw [HRES.out]; clear HIS HDG; split <;> simp_all)
end
end Go.Proofs.YtmjooghfghmngaaDoor
