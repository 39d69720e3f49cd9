/- What a text of signs of numbers is, as a whole; and the document's own number is the same. -/
import Derived.Test.YtmjooghfghmngaaDoorJSpec
import Derived.Test.YtmjooghfghmngaaDoorJRefN
namespace Go.Proofs.YtmjooghfghmngaaDoor
open Go.RowKit Go.Shelf Go.Lib

theorem nums_facts {c : UInt8} (h : numsB.contains c = true) : blankB.contains c = false ∧ signB.contains c = false ∧ c ≠ 34 ∧ (lowB.contains c = true → c = 101) := by
  have hh : ∀ n : Nat, n < 256 → numsB.contains (UInt8.ofNat n) = true → blankB.contains (UInt8.ofNat n) = false ∧ signB.contains (UInt8.ofNat n) = false ∧ UInt8.ofNat n ≠ 34 ∧ (lowB.contains (UInt8.ofNat n) = true → UInt8.ofNat n = 101) := by decide +kernel
  have := hh c.toNat c.toNat_lt
  rw [UInt8.ofNat_toNat] at this
  exact this h
theorem takeAll {l cs : List UInt8} (h : ∀ c ∈ l, cs.contains c = true) : l.takeWhile (cs.contains ·) = l := by
  induction l with
  | nil => rfl
  | cons c r ih => rw [List.takeWhile_cons, if_pos (h c (by simp)), ih (fun x hx => h x (by simp [hx]))]
theorem numB_e (r : List UInt8) : numB (101 :: r) = false := by
  have h1 : Lib.trimPrefix (101 :: r) [45] = 101 :: r := by simp [Lib.trimPrefix, Lib.hasPrefix]
  have h2 : dgs (101 :: r) = [] := by simp [dgs, isD, digB]
  unfold numB
  simp only [h1, h2]
  rfl
theorem tok_end (s : List UInt8) (p : Nat) (h : s.length ≤ p) : tokN s p = .ok ⟨0, p, noT, p⟩ := by
  have h1 : runL s blankB p = [] := by unfold runL; rw [List.drop_eq_nil_of_le h]; rfl
  have h2 : blankE s p = p := by unfold blankE; rw [h1]; rfl
  unfold tokN tokL
  rw [h2, List.getElem?_eq_none h]
theorem tok_at {s : List UInt8} {p : Nat} {c : UInt8} (h : s[p]? = some c) (hb : blankB.contains c = false) : tokL s p = tokC s c p := by
  have hlt : p < s.length := by
    rcases Nat.lt_or_ge p s.length with h1 | h1
    · exact h1
    · rw [List.getElem?_eq_none h1] at h; cases h
  have e : s.drop p = c :: s.drop (p + 1) := by
    rw [List.drop_eq_getElem_cons hlt]
    rw [List.getElem?_eq_getElem hlt] at h
    cases h; rfl
  have h1 : runL s blankB p = [] := by unfold runL; rw [e, List.takeWhile_cons, if_neg (by rw [hb]; simp)]
  have h2 : blankE s p = p := by unfold blankE; rw [h1]; rfl
  unfold tokL
  rw [h2, h]

theorem parse_nums (s : List UInt8) (hl : s.length ≤ 262144) (h : ∀ c ∈ s, numsB.contains c = true) :
    parseN s = if numB s then .ok (.mk 4 ⟨s.toArray⟩ [] []) else .error (0, 11) := by
  unfold parseN
  rw [if_neg (by omega)]
  cases s with
  | nil => rfl
  | cons c r =>
    obtain ⟨f1, f2, f3, f4⟩ := nums_facts (h c (by simp))
    have h0 : (c :: r)[0]? = some c := rfl
    have ht : tokN (c :: r) 0 = if numB (c :: r) then .ok ⟨4, 0, ⟨(c :: r).toArray⟩, (c :: r).length⟩ else .error (0, 11) := by
      unfold tokN
      rw [tok_at h0 f1, tokC, if_neg (by rw [f2]; simp), if_neg f3]
      by_cases hlo : lowB.contains c = true
      · rw [if_pos hlo]
        obtain rfl := f4 hlo
        have hw : wordK (runL (101 :: r) lowB 0) = 0 := by
          have : runL (101 :: r) lowB 0 = 101 :: r.takeWhile (lowB.contains ·) := by
            unfold runL
            rw [List.drop_zero, List.takeWhile_cons, if_pos hlo]
          rw [this]
          unfold wordK nullB falseB trueB
          simp
        rw [if_pos hw, numB_e]
        rfl
      · rw [if_neg hlo, if_pos (h c (by simp))]
        have hr : runL (c :: r) numsB 0 = c :: r := by unfold runL; rw [List.drop_zero]; exact takeAll h
        rw [hr, Nat.zero_add]
        cases numB (c :: r) <;> rfl
    rw [ht]
    cases hn : numB (c :: r) with
    | false => rfl
    | true =>
      have he := tok_end (c :: r) (c :: r).length (Nat.le_refl _)
      have hv : valN (c :: r) 32 ⟨4, 0, ⟨(c :: r).toArray⟩, (c :: r).length⟩ = .ok (.mk 4 ⟨(c :: r).toArray⟩ [] [], ⟨0, (c :: r).length, noT, (c :: r).length⟩) := by
        unfold valN
        simp only [he]
        rfl
      simp only [if_true, hv]

theorem dgE_nat (s : List UInt8) (j : Nat) : dgE s (j : Int) = ((j + (dgs (s.drop j)).length : Nat) : Int) := by simp [dgE]
theorem isAt_nat (s : List UInt8) (j : Nat) (c : UInt8) : isAt s (j : Int) c = ((s.drop j).head? == some c) := by simp [isAt]
theorem rst_drop (s : List UInt8) (j : Nat) : rst (s.drop j) = s.drop (j + (dgs (s.drop j)).length) := by
  have h := dgs_rst (s.drop j)
  have h2 : (s.drop j).drop (dgs (s.drop j)).length = rst (s.drop j) := by
    conv => lhs; rw [← h]
    rw [show (dgs (dgs (s.drop j) ++ rst (s.drop j))) = dgs (s.drop j) by rw [h]]
    exact List.drop_left
  rw [← h2, List.drop_drop]
theorem digs_end {s : List UInt8} {j : Nat} (hj : j ≤ s.length) : (if dgE s (j : Int) = (j : Int) then false else dgE s (j : Int) == (s.length : Int)) = (!(dgs (s.drop j)).isEmpty && (rst (s.drop j)).isEmpty) := by
  have h2 := dgs_len (s.drop j)
  rw [dgE_nat]
  rw [List.length_drop] at h2
  generalize dgs (s.drop j) = D at *
  generalize rst (s.drop j) = R at *
  cases D with
  | nil => simp
  | cons d D =>
    rw [if_neg (by simp only [List.length_cons]; omega)]
    cases R with
    | nil =>
      simp only [List.length_cons, List.length_nil] at h2
      simp
      omega
    | cons r R =>
      simp only [List.length_cons] at h2
      simp
      omega
theorem tail_eq {s : List UInt8} {j : Nat} (hj : j ≤ s.length) : tailI s (j : Int) = ((s.drop j).isEmpty || expB (s.drop j)) := by
  unfold tailI
  rw [show ((j : Int) + 1) = ((j + 1 : Nat) : Int) by omega, show (((j + 1 : Nat) : Int) + 1) = ((j + 1 + 1 : Nat) : Int) by omega]
  simp only [isAt_nat]
  cases hr : s.drop j with
  | nil =>
    have : s.length ≤ j := by
      rcases Nat.lt_or_ge j s.length with h | h
      · rw [List.drop_eq_getElem_cons h] at hr; cases hr
      · exact h
    have e : j = s.length := by omega
    simp [e]
  | cons c r =>
    have hlt : j < s.length := by
      rcases Nat.lt_or_ge j s.length with h | h
      · exact h
      · rw [List.drop_eq_nil_of_le h] at hr; cases hr
    have hr1 : s.drop (j + 1) = r := by
      rw [List.drop_eq_getElem_cons hlt] at hr
      cases hr; rfl
    have hr2 : s.drop (j + 1 + 1) = r.drop 1 := by rw [← hr1, List.drop_drop]
    have hi1 := digs_end (s := s) (j := j + 1) (by omega)
    rw [hr1] at hi1
    rw [hr1]
    have hne : ((j : Int) == (s.length : Int)) = false := by rw [beq_eq_false_iff_ne]; omega
    rw [hne]
    have hc : ∀ d : UInt8, ((List.head? (c :: r) == some d) = true) = (c = d) := fun d => by simp
    simp only [hc]
    rw [show expB (c :: r) = ((c == 101 || c == 69) && (!(dgs (signless r)).isEmpty && (rst (signless r)).isEmpty)) from rfl, signless_sg]
    by_cases he : c = 101 ∨ c = 69
    · rw [if_pos he]
      have hcc : (c == 101 || c == 69) = true := by simpa using he
      rw [hcc]
      cases r with
      | nil =>
        rw [if_neg (by simp), hi1]
        simp [sgB]
      | cons d q =>
        have hd : ∀ x : UInt8, ((List.head? (d :: q) == some x) = true) = (d = x) := fun x => by simp
        simp only [hd]
        have hlt2 : j + 1 < s.length := by
          rcases Nat.lt_or_ge (j + 1) s.length with h | h
          · exact h
          · rw [List.drop_eq_nil_of_le h] at hr1; cases hr1
        have hi2 := digs_end (s := s) (j := j + 1 + 1) (by omega)
        rw [hr2] at hi2
        by_cases hs : d = 43 ∨ d = 45
        · have hss : sgB (d :: q) = true := by simpa [sgB] using hs
          rw [if_pos hs, hi2, hss]
          simp
        · have hss : sgB (d :: q) = false := by simpa [sgB] using hs
          rw [if_neg hs, hi1, hss]
          simp
    · rw [if_neg he]
      have hcc : (c == 101 || c == 69) = false := by simpa using he
      rw [hcc]
      simp
theorem body_eq {s : List UInt8} {j : Nat} (hj : j ≤ s.length) : bodyI s (j : Int) = (let r := rst (s.drop j)
    if (dgs (s.drop j)).isEmpty || ((dgs (s.drop j)).head? == some 48 && dgs (s.drop j) != [48]) then false
    else if Lib.hasPrefix r [46] then
      let q := Lib.trimPrefix r [46]
      if (dgs q).isEmpty then false else (rst q).isEmpty || expB (rst q)
    else r.isEmpty || expB r) := by
  have h2 := dgs_len (s.drop j)
  rw [List.length_drop] at h2
  have h3 := rst_drop s j
  have h4 := dgs_rst (s.drop j)
  have hle : j + (dgs (s.drop j)).length ≤ s.length := by omega
  unfold bodyI
  rw [dgE_nat]
  cases hD : dgs (s.drop j) with
  | nil => simp
  | cons d D =>
    rw [hD] at h2 h3 h4 hle
    obtain ⟨R, hR⟩ : ∃ R, R = rst (s.drop j) := ⟨_, rfl⟩
    rw [← hR] at h3 h4 ⊢
    obtain ⟨k, hk⟩ : ∃ k, k = j + (d :: D).length := ⟨_, rfl⟩
    rw [← hk] at h3 hle ⊢
    have h48 : isAt s (j : Int) 48 = (d == 48) := by
      rw [isAt_nat, ← h4, Bool.eq_iff_iff]; simp
    have hcond : ((k : Int) = (j : Int) ∨ (isAt s (j : Int) 48 = true ∧ (j : Int) + 1 < (k : Int))) = (((d :: D).isEmpty || ((d :: D).head? == some 48 && (d :: D) != [48])) = true) := by
      rw [h48]
      simp only [List.length_cons] at hk
      apply propext
      cases D with
      | nil =>
        simp only [List.length_nil] at hk
        simp
        try omega
      | cons x X =>
        simp only [List.length_cons] at hk
        have hkj : ¬ (k : Int) = (j : Int) := by omega
        have hlt : (j : Int) + 1 < (k : Int) := by omega
        simp [hkj, hlt]
    rw [show (if (k : Int) = (j : Int) ∨ (isAt s (j : Int) 48 = true ∧ (j : Int) + 1 < (k : Int)) then false else if isAt s (k : Int) 46 = true then if dgE s ((k : Int) + 1) = (k : Int) + 1 then false else tailI s (dgE s ((k : Int) + 1)) else tailI s (k : Int)) = (if ((d :: D).isEmpty || ((d :: D).head? == some 48 && (d :: D) != [48])) = true then false else if isAt s (k : Int) 46 = true then if dgE s ((k : Int) + 1) = (k : Int) + 1 then false else tailI s (dgE s ((k : Int) + 1)) else tailI s (k : Int)) by simp only [hcond]]
    rw [show ((k : Int) + 1) = ((k + 1 : Nat) : Int) by omega, dgE_nat s (k + 1), isAt_nat, ← h3, tail_eq hle, ← h3]
    congr 1
    cases R with
    | nil => simp [Lib.hasPrefix]
    | cons r R =>
      have hR1 : s.drop (k + 1) = R := by
        have hlt : k < s.length := by
          rcases Nat.lt_or_ge k s.length with h | h
          · exact h
          · rw [List.drop_eq_nil_of_le h] at h3; cases h3
        rw [List.drop_eq_getElem_cons hlt] at h3
        cases h3; rfl
      have hk1 : k + 1 + (dgs R).length ≤ s.length := by
        have := dgs_len R
        have h5 : (s.drop (k + 1)).length = R.length := by rw [hR1]
        have h6 : (s.drop k).length = R.length + 1 := by rw [← h3]; rfl
        simp only [List.length_drop] at h5 h6
        omega
      have h7 := rst_drop s (k + 1)
      rw [hR1] at h7
      rw [hR1, tail_eq hk1, ← h7]
      by_cases hr : r = 46
      · subst hr
        have e1 : Lib.hasPrefix (46 :: R) [46] = true := by simp [Lib.hasPrefix]
        have e2 : Lib.trimPrefix (46 :: R) [46] = R := by simp [Lib.trimPrefix, Lib.hasPrefix]
        simp only [e1, e2, if_true]
        rw [if_pos (by simp)]
        cases hd : dgs R with
        | nil => simp
        | cons y Y =>
          rw [if_neg (by simp only [List.length_cons]; omega)]
          simp
      · have e1 : Lib.hasPrefix (r :: R) [46] = false := by simp only [Lib.hasPrefix, List.isPrefixOf, Bool.and_true]; rw [beq_eq_false_iff_ne]; exact fun h => hr h.symm
        simp only [e1]
        rw [if_neg (by simpa using hr)]
        simp
theorem num_eq (s : List UInt8) : numI s = numB s := by
  have h0 : isAt s 0 45 = (s.head? == some 45) := by simp [isAt, List.head?_eq_getElem?]
  unfold numI numB
  rw [h0]
  cases s with
  | nil => decide
  | cons c r =>
    by_cases hc : c = 45
    · subst hc
      have e1 : Lib.trimPrefix (45 :: r) [45] = r := by simp [Lib.trimPrefix, Lib.hasPrefix]
      have h := body_eq (s := 45 :: r) (j := 1) (by simp)
      simp only [e1]
      rw [if_pos (by simp)]
      exact h
    · have e1 : Lib.trimPrefix (c :: r) [45] = c :: r := by
        have : Lib.hasPrefix (c :: r) [45] = false := by simp only [Lib.hasPrefix, List.isPrefixOf, Bool.and_true]; rw [beq_eq_false_iff_ne]; exact fun h => hc h.symm
        simp [Lib.trimPrefix, this]
      have h := body_eq (s := c :: r) (j := 0) (by simp)
      simp only [e1]
      rw [if_neg (by simpa using hc)]
      exact h
end Go.Proofs.YtmjooghfghmngaaDoor
