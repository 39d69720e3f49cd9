/- The document's characters of UTF-8. -/
import Derived.Test.YtmjooghfghmngaaDoorJNumP
import Derived.Lib.ValidLaws
import Derived.Lib.MapLaws
namespace Go.Proofs.YtmjooghfghmngaaDoor
open Go.RowKit Go.Shelf Go.Lib

def nW (c : Nat) : Nat := if c < 128 then 1 else if 194 ≤ c ∧ c ≤ 223 then 2 else if 224 ≤ c ∧ c ≤ 239 then 3 else if 240 ≤ c ∧ c ≤ 244 then 4 else 0
def loW (c : Nat) : Nat := if c = 224 then 160 else if c = 240 then 144 else 128
def hiW (c : Nat) : Nat := if c = 237 then 159 else if c = 244 then 143 else 191
/-- How many bytes a character has whose bytes are these; 0: it is none. -/
def chN (len c b1 b2 b3 : Nat) : Nat :=
  if c < 128 then 1 else if nW c = 0 ∨ len < nW c ∨ b1 < loW c ∨ hiW c < b1 then 0
  else if 2 < nW c ∧ (b2 < 128 ∨ 191 < b2) then 0 else if 3 < nW c ∧ (b3 < 128 ∨ 191 < b3) then 0 else nW c
def chD (d : Nat × Nat) : Nat := if d.1 = 65533 ∧ d.2 = 1 then 0 else d.2
set_option maxHeartbeats 2000000 in
theorem ch_eq (len c b1 b2 b3 : Nat) (hc : c < 256) (h1 : b1 < 256) (h2 : b2 < 256) (h3 : b3 < 256) : chD (Lib.decodeN len c b1 b2 b3) = chN len c b1 b2 b3 := by
  rcases Lib.decodeN_shape len c b1 b2 b3 with ⟨h, e⟩ | ⟨k1, k2, k3, k4, e⟩ | ⟨k1, k2, k3, k4, k5, k6, e⟩ | ⟨k1, k2, k3, k4, k5, k6, k7, e⟩ | e
  · rw [e]
    unfold chD chN
    rw [if_pos h, if_neg (by simp only; omega)]
  · rw [e]
    have n1 : nW c = 2 := by unfold nW; rw [if_neg (by omega), if_pos (by omega)]
    have l1 : loW c = 128 := by unfold loW; rw [if_neg (by omega), if_neg (by omega)]
    have u1 : hiW c = 191 := by unfold hiW; rw [if_neg (by omega), if_neg (by omega)]
    unfold chD chN
    rw [n1, l1, u1, if_neg (by simp only; omega), if_neg (by omega), if_neg (by omega), if_neg (by omega), if_neg (by omega)]
  · rw [e]
    have n1 : nW c = 3 := by unfold nW; rw [if_neg (by omega), if_neg (by omega), if_pos (by omega)]
    unfold chD chN
    rw [n1, if_neg (by simp only; omega), if_neg (by omega), if_neg (by
      have l1 : loW c ≤ b1 := by unfold loW; (repeat' split) <;> omega
      have u1 : b1 ≤ hiW c := by unfold hiW; (repeat' split) <;> omega
      omega), if_neg (by omega), if_neg (by omega)]
  · rw [e]
    have n1 : nW c = 4 := by unfold nW; rw [if_neg (by omega), if_neg (by omega), if_neg (by omega), if_pos (by omega)]
    unfold chD chN
    rw [n1, if_neg (by simp only; omega), if_neg (by omega), if_neg (by
      have l1 : loW c ≤ b1 := by unfold loW; (repeat' split) <;> omega
      have u1 : b1 ≤ hiW c := by unfold hiW; (repeat' split) <;> omega
      omega), if_neg (by omega), if_neg (by omega)]
  · rw [e]
    show 0 = _
    unfold chN
    by_cases c1 : c < 128
    · exfalso
      unfold Lib.decodeN at e
      rw [if_pos c1] at e
      injection e with e1 e2
      omega
    rw [if_neg c1]
    by_cases c2 : nW c = 0 ∨ len < nW c ∨ b1 < loW c ∨ hiW c < b1
    · rw [if_pos c2]
    rw [if_neg c2]
    by_cases c3 : 2 < nW c ∧ (b2 < 128 ∨ 191 < b2)
    · rw [if_pos c3]
    rw [if_neg c3]
    by_cases c4 : 3 < nW c ∧ (b3 < 128 ∨ 191 < b3)
    · rw [if_pos c4]
    exfalso
    have hn : nW c = 2 ∨ nW c = 3 ∨ nW c = 4 := by
      have h0 : ¬ nW c = 0 := fun h => c2 (.inl h)
      unfold nW at h0 ⊢
      (repeat' split at h0) <;> (repeat' split) <;> omega
    unfold Lib.decodeN at e
    rw [if_neg c1] at e
    rcases hn with hn | hn | hn
    · have hcl : 194 ≤ c ∧ c ≤ 223 := by unfold nW at hn; (repeat' split at hn) <;> omega
      have l1 : loW c = 128 := by unfold loW; rw [if_neg (by omega), if_neg (by omega)]
      have u1 : hiW c = 191 := by unfold hiW; rw [if_neg (by omega), if_neg (by omega)]
      rw [hn, l1, u1] at c2
      rw [if_pos (by omega), if_pos (by omega)] at e
      injection e with e1 e2
      omega
    · have hcl : 224 ≤ c ∧ c ≤ 239 := by unfold nW at hn; (repeat' split at hn) <;> omega
      rw [hn] at c2 c3
      have hlo : loW c ≤ b1 := by omega
      have hhi : b1 ≤ hiW c := by omega
      have f1 : 128 ≤ b1 ∧ b1 ≤ 191 := by
        unfold loW at hlo
        unfold hiW at hhi
        (repeat' split at hlo) <;> (repeat' split at hhi) <;> omega
      have f2 : c = 224 → 160 ≤ b1 := fun h => by unfold loW at hlo; rw [if_pos h] at hlo; exact hlo
      have f3 : c = 237 → b1 ≤ 159 := fun h => by unfold hiW at hhi; rw [if_pos h] at hhi; exact hhi
      rw [if_neg (by omega), if_pos (by omega), if_pos (by omega)] at e
      injection e with e1 e2
      omega
    · have hcl : 240 ≤ c ∧ c ≤ 244 := by unfold nW at hn; (repeat' split at hn) <;> omega
      rw [hn] at c2 c3 c4
      have hlo : loW c ≤ b1 := by omega
      have hhi : b1 ≤ hiW c := by omega
      have f1 : 128 ≤ b1 ∧ b1 ≤ 191 := by
        unfold loW at hlo
        unfold hiW at hhi
        (repeat' split at hlo) <;> (repeat' split at hhi) <;> omega
      have f2 : c = 240 → 144 ≤ b1 := fun h => by unfold loW at hlo; rw [if_neg (by omega), if_pos h] at hlo; exact hlo
      have f3 : c = 244 → b1 ≤ 143 := fun h => by unfold hiW at hhi; rw [if_neg (by omega), if_pos h] at hhi; exact hhi
      rw [if_neg (by omega), if_neg (by omega), if_pos (by omega), if_pos (by omega)] at e
      injection e with e1 e2
      omega

/-- The width of the character at a place. -/
def chW (s : List UInt8) (i : Nat) : Nat := chD (Lib.decodeL (s.drop i))
theorem chW_eq (s : List UInt8) (i : Nat) : chW s i = chN (s.length - i) (s.getD i 0).toNat (s.getD (i + 1) 0).toNat (s.getD (i + 2) 0).toNat (s.getD (i + 3) 0).toNat := by
  unfold chW
  rw [Lib.decodeL_N, ch_eq _ _ _ _ _ (UInt8.toNat_lt _) (UInt8.toNat_lt _) (UInt8.toNat_lt _) (UInt8.toNat_lt _)]
  simp [List.getD_eq_getElem?_getD, List.getElem?_drop]


section
variable {W : World} {A : Option Addr} {cp : Nat} {s : List UInt8}
set_option maxHeartbeats 4000000 in
set_option maxRecDepth 100000 in
theorem ref_Char (hB : Lib.BytesAt W A s.length s) (hs : s.length ≤ 2097152) (i : Nat) (hi : i < s.length) :
    Calls Tryd.prog 25 #[.slice A s.length cp, .int .i64 i] W fun e w' => e = .returned (.int .i64 (chW s i : Nat)) ∧ w' = W := by
  rw [chW_eq]
  obtain ⟨g, o, rfl, hcell⟩ := hB (by omega)
  have HC := Lib.hid hcell
  have hx := hcell i hi
  have hlt := (s.getD i 0).toNat_lt
  have hl0 : (0 : Int) ≤ (i : Int) := by omega
  have hl1 : (i : Int) < (s.length : Int) := by omega
  have hw : IntKind.i64.wrap ((s.length : Int) - (i : Int)) = (s.length : Int) - (i : Int) := IntWalk.i64_in _ (by omega)
  have hw1 : IntKind.i64.wrap ((i : Int) + 1) = (i : Int) + 1 := IntWalk.i64_in _ (by omega)
  obtain ⟨R, hR⟩ : ∃ R, R = chN (s.length - i) (s.getD i 0).toNat (s.getD (i + 1) 0).toNat (s.getD (i + 2) 0).toNat (s.getD (i + 3) 0).toNat := ⟨_, rfl⟩
  rw [← hR]
  generalize (s.getD i 0).toNat = c at *
  clear hcell hB
  by_cases c1 : c < 128
  · have hr : R = 1 := by rw [hR, chN, if_pos c1]
    subst hr
    have f1 : (c : Int) < 128 := by omega
    clear hR
    go_enter Tryd.func25, Tryd.ntmps25
    go_wp2_with fail
    go_ret
    exact ⟨rfl, rfl⟩
  have f1 : ¬ (c : Int) < 128 := by omega
  have HR := Lib.hid hR
  clear hR

  by_cases cc : c < 194
  · have hr : R = 0 := by rw [HR.out, chN, if_neg c1, if_pos (.inl (by unfold nW; rw [if_neg c1, if_neg (by omega), if_neg (by omega), if_neg (by omega)]))]
    subst hr
    have g2 : ¬ (194 : Int) ≤ (c : Int) := by omega
    have g4 : ¬ (224 : Int) ≤ (c : Int) := by omega
    have g6 : ¬ (240 : Int) ≤ (c : Int) := by omega
    have e1 : ((c : Int) == 224) = false := by rw [beq_eq_false_iff_ne]; omega
    have e2 : ((c : Int) == 237) = false := by rw [beq_eq_false_iff_ne]; omega
    have e3 : ((c : Int) == 240) = false := by rw [beq_eq_false_iff_ne]; omega
    have e4 : ((c : Int) == 244) = false := by rw [beq_eq_false_iff_ne]; omega
    clear HR
    go_enter Tryd.func25, Tryd.ntmps25
    go_wp2_with fail
    go_ret
    exact ⟨rfl, rfl⟩
  by_cases cc : c ≤ 223
  · have hn : nW c = 2 := by unfold nW; rw [if_neg c1, if_pos (by omega)]
    have hlo : loW c = 128 := by unfold loW; (repeat' split) <;> omega
    have hhi : hiW c = 191 := by unfold hiW; (repeat' split) <;> omega
    have g2 : (194 : Int) ≤ (c : Int) := by omega
    have g3 : (c : Int) ≤ 223 := by omega
    have g4 : ¬ (224 : Int) ≤ (c : Int) := by omega
    have g6 : ¬ (240 : Int) ≤ (c : Int) := by omega
    have e1 : ((c : Int) == 224) = false := by rw [beq_eq_false_iff_ne]; omega
    have e2 : ((c : Int) == 237) = false := by rw [beq_eq_false_iff_ne]; omega
    have e3 : ((c : Int) == 240) = false := by rw [beq_eq_false_iff_ne]; omega
    have e4 : ((c : Int) == 244) = false := by rw [beq_eq_false_iff_ne]; omega
    have hre := HR.out
    rw [chN, if_neg c1, hn, hlo, hhi] at hre
    have HR := Lib.hid hre
    clear hre hn hlo hhi cc c1 hlt
    by_cases d1 : s.length - i < 2
    · have hr : R = 0 := by rw [HR.out, if_pos (.inr (.inl d1))]
      subst hr
      have d2 : (s.length : Int) - (i : Int) < 2 := by omega
      clear HR d1
      go_enter Tryd.func25, Tryd.ntmps25
      go_wp2_with fail
      go_ret
      exact ⟨rfl, rfl⟩
    have d2 : ¬ (s.length : Int) - (i : Int) < 2 := by omega
    have hx1 := HC.out (i + 1) (by omega)
    have hm0 : (0 : Int) ≤ (i : Int) + 1 := by omega
    have hm1 : (i : Int) + 1 < (s.length : Int) := by omega
    have hb1 := (s.getD (i + 1) 0).toNat_lt
    generalize (s.getD (i + 1) 0).toNat = b1 at *
    by_cases d3 : b1 < 128
    · have hr : R = 0 := by rw [HR.out, if_pos (.inr (.inr (.inl d3)))]
      subst hr
      have d4 : (b1 : Int) < 128 := by omega
      clear HR d3 d1
      go_enter Tryd.func25, Tryd.ntmps25
      go_wp2_with fail
      go_ret
      exact ⟨rfl, rfl⟩
    have d4 : ¬ (b1 : Int) < 128 := by omega
    by_cases d5 : 191 < b1
    · have hr : R = 0 := by rw [HR.out, if_pos (.inr (.inr (.inr d5)))]
      subst hr
      have d6 : (191 : Int) < (b1 : Int) := by omega
      clear HR d3 d1 d5
      go_enter Tryd.func25, Tryd.ntmps25
      go_wp2_with fail
      go_ret
      exact ⟨rfl, rfl⟩
    have d6 : ¬ (191 : Int) < (b1 : Int) := by omega
    have hre := HR.out
    rw [if_neg (by omega)] at hre
    have HR := Lib.hid hre
    clear hre d3 d5 hb1
    go_enter Tryd.func25, Tryd.ntmps25
    go_wp2_with fail
    go_loopw [9] (fun k wr => ∃ m : Nat, k = .int .i64 m ∧ wr = W ∧ 2 ≤ m ∧ m ≤ 2 ∧ Hid (∀ j, 2 ≤ j → j < m → 128 ≤ (s.getD (i + j) 0).toNat ∧ (s.getD (i + j) 0).toNat ≤ 191)) (fun k _ => 2 - (RowKit.intOf k).toNat)
    case atStart => exact ⟨2, rfl, rfl, by omega, by omega, fun j h1 h2 => by omega⟩
    case round =>
      obtain ⟨m, rfl, hw9, hm2, hmn, HM⟩ := hrel
      have hw9 := hw9.symm
      subst hw9
      by_cases hk : m < 2
      · have hk1 : (m : Int) < 2 := by omega
        have hy := HC.out (i + m) (by omega)
        have hy0 : (0 : Int) ≤ (i : Int) + (m : Int) := by omega
        have hy1 : (i : Int) + (m : Int) < (s.length : Int) := by omega
        have hyw : IntKind.i64.wrap ((i : Int) + (m : Int)) = (i : Int) + (m : Int) := IntWalk.i64_in _ (by omega)
        have hyt : ((i : Int) + (m : Int)).toNat = i + m := by omega
        obtain ⟨b, hb⟩ : ∃ b, b = (s.getD (i + m) 0).toNat := ⟨_, rfl⟩
        rw [← hb] at hy
        have HBB := Lib.hid hb
        clear hb
        by_cases z1 : (b : Int) < 128
        · have hr : R = 0 := by
            have hb := HBB.out
            have := HR.out
            omega
          subst hr
          go_wp2_with fail
          go_ret
          exact ⟨rfl, rfl⟩
        by_cases z2 : (191 : Int) < (b : Int)
        · have hr : R = 0 := by
            have hb := HBB.out
            have := HR.out
            omega
          subst hr
          go_wp2_with fail
          go_ret
          exact ⟨rfl, rfl⟩
        · go_wp2_with fail
          refine ⟨⟨m + 1, by go_num, by first | rfl | trivial, by omega, by omega, fun j h1 h2 => ?_⟩, by simp [RowKit.intOf]; omega⟩
          by_cases hjm : j < m
          · exact HM.out j h1 hjm
          · obtain rfl : j = m := by omega
            have hb := HBB.out
            omega
      · have hk1 : ¬ (m : Int) < 2 := by omega
        obtain rfl : m = 2 := by omega
        have hr : R = 2 := by
          have := HR.out
          skip
          rw [this, if_neg (by omega), if_neg (by omega)]
        subst hr
        go_wp2_with fail
        go_ret
        exact ⟨rfl, rfl⟩
  by_cases cc : c = 224
  · have hn : nW c = 3 := by unfold nW; rw [if_neg c1, if_neg (by omega), if_pos (by omega)]
    have hlo : loW c = 160 := by unfold loW; (repeat' split) <;> omega
    have hhi : hiW c = 191 := by unfold hiW; (repeat' split) <;> omega
    have g2 : (194 : Int) ≤ (c : Int) := by omega
    have g3 : ¬ (c : Int) ≤ 223 := by omega
    have g4 : (224 : Int) ≤ (c : Int) := by omega
    have g5 : (c : Int) ≤ 239 := by omega
    have g6 : ¬ (240 : Int) ≤ (c : Int) := by omega
    have e1 : ((c : Int) == 224) = true := by rw [beq_iff_eq]; omega
    have e2 : ((c : Int) == 237) = false := by rw [beq_eq_false_iff_ne]; omega
    have e3 : ((c : Int) == 240) = false := by rw [beq_eq_false_iff_ne]; omega
    have e4 : ((c : Int) == 244) = false := by rw [beq_eq_false_iff_ne]; omega
    have hre := HR.out
    rw [chN, if_neg c1, hn, hlo, hhi] at hre
    have HR := Lib.hid hre
    clear hre hn hlo hhi cc c1 hlt
    by_cases d1 : s.length - i < 3
    · have hr : R = 0 := by rw [HR.out, if_pos (.inr (.inl d1))]
      subst hr
      have d2 : (s.length : Int) - (i : Int) < 3 := by omega
      clear HR d1
      go_enter Tryd.func25, Tryd.ntmps25
      go_wp2_with fail
      go_ret
      exact ⟨rfl, rfl⟩
    have d2 : ¬ (s.length : Int) - (i : Int) < 3 := by omega
    have hx1 := HC.out (i + 1) (by omega)
    have hm0 : (0 : Int) ≤ (i : Int) + 1 := by omega
    have hm1 : (i : Int) + 1 < (s.length : Int) := by omega
    have hb1 := (s.getD (i + 1) 0).toNat_lt
    generalize (s.getD (i + 1) 0).toNat = b1 at *
    by_cases d3 : b1 < 160
    · have hr : R = 0 := by rw [HR.out, if_pos (.inr (.inr (.inl d3)))]
      subst hr
      have d4 : (b1 : Int) < 160 := by omega
      clear HR d3 d1
      go_enter Tryd.func25, Tryd.ntmps25
      go_wp2_with fail
      go_ret
      exact ⟨rfl, rfl⟩
    have d4 : ¬ (b1 : Int) < 160 := by omega
    by_cases d5 : 191 < b1
    · have hr : R = 0 := by rw [HR.out, if_pos (.inr (.inr (.inr d5)))]
      subst hr
      have d6 : (191 : Int) < (b1 : Int) := by omega
      clear HR d3 d1 d5
      go_enter Tryd.func25, Tryd.ntmps25
      go_wp2_with fail
      go_ret
      exact ⟨rfl, rfl⟩
    have d6 : ¬ (191 : Int) < (b1 : Int) := by omega
    have hre := HR.out
    rw [if_neg (by omega)] at hre
    have HR := Lib.hid hre
    clear hre d3 d5 hb1
    go_enter Tryd.func25, Tryd.ntmps25
    go_wp2_with fail
    go_loopw [9] (fun k wr => ∃ m : Nat, k = .int .i64 m ∧ wr = W ∧ 2 ≤ m ∧ m ≤ 3 ∧ Hid (∀ j, 2 ≤ j → j < m → 128 ≤ (s.getD (i + j) 0).toNat ∧ (s.getD (i + j) 0).toNat ≤ 191)) (fun k _ => 3 - (RowKit.intOf k).toNat)
    case atStart => exact ⟨2, rfl, rfl, by omega, by omega, fun j h1 h2 => by omega⟩
    case round =>
      obtain ⟨m, rfl, hw9, hm2, hmn, HM⟩ := hrel
      have hw9 := hw9.symm
      subst hw9
      by_cases hk : m < 3
      · have hk1 : (m : Int) < 3 := by omega
        have hy := HC.out (i + m) (by omega)
        have hy0 : (0 : Int) ≤ (i : Int) + (m : Int) := by omega
        have hy1 : (i : Int) + (m : Int) < (s.length : Int) := by omega
        have hyw : IntKind.i64.wrap ((i : Int) + (m : Int)) = (i : Int) + (m : Int) := IntWalk.i64_in _ (by omega)
        have hyt : ((i : Int) + (m : Int)).toNat = i + m := by omega
        obtain ⟨b, hb⟩ : ∃ b, b = (s.getD (i + m) 0).toNat := ⟨_, rfl⟩
        rw [← hb] at hy
        have HBB := Lib.hid hb
        clear hb
        by_cases z1 : (b : Int) < 128
        · have hr : R = 0 := by
            have hb := HBB.out
            have := HR.out
            rcases (show m = 2 by omega) with rfl
            all_goals rw [this]
            · rw [if_pos ⟨by omega, .inl (by omega)⟩]
          subst hr
          go_wp2_with fail
          go_ret
          exact ⟨rfl, rfl⟩
        by_cases z2 : (191 : Int) < (b : Int)
        · have hr : R = 0 := by
            have hb := HBB.out
            have := HR.out
            rcases (show m = 2 by omega) with rfl
            all_goals rw [this]
            · rw [if_pos ⟨by omega, .inr (by omega)⟩]
          subst hr
          go_wp2_with fail
          go_ret
          exact ⟨rfl, rfl⟩
        · go_wp2_with fail
          refine ⟨⟨m + 1, by go_num, by first | rfl | trivial, by omega, by omega, fun j h1 h2 => ?_⟩, by simp [RowKit.intOf]; omega⟩
          by_cases hjm : j < m
          · exact HM.out j h1 hjm
          · obtain rfl : j = m := by omega
            have hb := HBB.out
            omega
      · have hk1 : ¬ (m : Int) < 3 := by omega
        obtain rfl : m = 3 := by omega
        have hr : R = 3 := by
          have := HR.out
          have q2 := HM.out 2 (by omega) (by omega)
          rw [this, if_neg (by omega), if_neg (by omega)]
        subst hr
        go_wp2_with fail
        go_ret
        exact ⟨rfl, rfl⟩
  by_cases cc : c = 237
  · have hn : nW c = 3 := by unfold nW; rw [if_neg c1, if_neg (by omega), if_pos (by omega)]
    have hlo : loW c = 128 := by unfold loW; (repeat' split) <;> omega
    have hhi : hiW c = 159 := by unfold hiW; (repeat' split) <;> omega
    have g2 : (194 : Int) ≤ (c : Int) := by omega
    have g3 : ¬ (c : Int) ≤ 223 := by omega
    have g4 : (224 : Int) ≤ (c : Int) := by omega
    have g5 : (c : Int) ≤ 239 := by omega
    have g6 : ¬ (240 : Int) ≤ (c : Int) := by omega
    have e1 : ((c : Int) == 224) = false := by rw [beq_eq_false_iff_ne]; omega
    have e2 : ((c : Int) == 237) = true := by rw [beq_iff_eq]; omega
    have e3 : ((c : Int) == 240) = false := by rw [beq_eq_false_iff_ne]; omega
    have e4 : ((c : Int) == 244) = false := by rw [beq_eq_false_iff_ne]; omega
    have hre := HR.out
    rw [chN, if_neg c1, hn, hlo, hhi] at hre
    have HR := Lib.hid hre
    clear hre hn hlo hhi cc c1 hlt
    by_cases d1 : s.length - i < 3
    · have hr : R = 0 := by rw [HR.out, if_pos (.inr (.inl d1))]
      subst hr
      have d2 : (s.length : Int) - (i : Int) < 3 := by omega
      clear HR d1
      go_enter Tryd.func25, Tryd.ntmps25
      go_wp2_with fail
      go_ret
      exact ⟨rfl, rfl⟩
    have d2 : ¬ (s.length : Int) - (i : Int) < 3 := by omega
    have hx1 := HC.out (i + 1) (by omega)
    have hm0 : (0 : Int) ≤ (i : Int) + 1 := by omega
    have hm1 : (i : Int) + 1 < (s.length : Int) := by omega
    have hb1 := (s.getD (i + 1) 0).toNat_lt
    generalize (s.getD (i + 1) 0).toNat = b1 at *
    by_cases d3 : b1 < 128
    · have hr : R = 0 := by rw [HR.out, if_pos (.inr (.inr (.inl d3)))]
      subst hr
      have d4 : (b1 : Int) < 128 := by omega
      clear HR d3 d1
      go_enter Tryd.func25, Tryd.ntmps25
      go_wp2_with fail
      go_ret
      exact ⟨rfl, rfl⟩
    have d4 : ¬ (b1 : Int) < 128 := by omega
    by_cases d5 : 159 < b1
    · have hr : R = 0 := by rw [HR.out, if_pos (.inr (.inr (.inr d5)))]
      subst hr
      have d6 : (159 : Int) < (b1 : Int) := by omega
      clear HR d3 d1 d5
      go_enter Tryd.func25, Tryd.ntmps25
      go_wp2_with fail
      go_ret
      exact ⟨rfl, rfl⟩
    have d6 : ¬ (159 : Int) < (b1 : Int) := by omega
    have hre := HR.out
    rw [if_neg (by omega)] at hre
    have HR := Lib.hid hre
    clear hre d3 d5 hb1
    go_enter Tryd.func25, Tryd.ntmps25
    go_wp2_with fail
    go_loopw [9] (fun k wr => ∃ m : Nat, k = .int .i64 m ∧ wr = W ∧ 2 ≤ m ∧ m ≤ 3 ∧ Hid (∀ j, 2 ≤ j → j < m → 128 ≤ (s.getD (i + j) 0).toNat ∧ (s.getD (i + j) 0).toNat ≤ 191)) (fun k _ => 3 - (RowKit.intOf k).toNat)
    case atStart => exact ⟨2, rfl, rfl, by omega, by omega, fun j h1 h2 => by omega⟩
    case round =>
      obtain ⟨m, rfl, hw9, hm2, hmn, HM⟩ := hrel
      have hw9 := hw9.symm
      subst hw9
      by_cases hk : m < 3
      · have hk1 : (m : Int) < 3 := by omega
        have hy := HC.out (i + m) (by omega)
        have hy0 : (0 : Int) ≤ (i : Int) + (m : Int) := by omega
        have hy1 : (i : Int) + (m : Int) < (s.length : Int) := by omega
        have hyw : IntKind.i64.wrap ((i : Int) + (m : Int)) = (i : Int) + (m : Int) := IntWalk.i64_in _ (by omega)
        have hyt : ((i : Int) + (m : Int)).toNat = i + m := by omega
        obtain ⟨b, hb⟩ : ∃ b, b = (s.getD (i + m) 0).toNat := ⟨_, rfl⟩
        rw [← hb] at hy
        have HBB := Lib.hid hb
        clear hb
        by_cases z1 : (b : Int) < 128
        · have hr : R = 0 := by
            have hb := HBB.out
            have := HR.out
            rcases (show m = 2 by omega) with rfl
            all_goals rw [this]
            · rw [if_pos ⟨by omega, .inl (by omega)⟩]
          subst hr
          go_wp2_with fail
          go_ret
          exact ⟨rfl, rfl⟩
        by_cases z2 : (191 : Int) < (b : Int)
        · have hr : R = 0 := by
            have hb := HBB.out
            have := HR.out
            rcases (show m = 2 by omega) with rfl
            all_goals rw [this]
            · rw [if_pos ⟨by omega, .inr (by omega)⟩]
          subst hr
          go_wp2_with fail
          go_ret
          exact ⟨rfl, rfl⟩
        · go_wp2_with fail
          refine ⟨⟨m + 1, by go_num, by first | rfl | trivial, by omega, by omega, fun j h1 h2 => ?_⟩, by simp [RowKit.intOf]; omega⟩
          by_cases hjm : j < m
          · exact HM.out j h1 hjm
          · obtain rfl : j = m := by omega
            have hb := HBB.out
            omega
      · have hk1 : ¬ (m : Int) < 3 := by omega
        obtain rfl : m = 3 := by omega
        have hr : R = 3 := by
          have := HR.out
          have q2 := HM.out 2 (by omega) (by omega)
          rw [this, if_neg (by omega), if_neg (by omega)]
        subst hr
        go_wp2_with fail
        go_ret
        exact ⟨rfl, rfl⟩
  by_cases cc : c ≤ 239
  · have hn : nW c = 3 := by unfold nW; rw [if_neg c1, if_neg (by omega), if_pos (by omega)]
    have hlo : loW c = 128 := by unfold loW; (repeat' split) <;> omega
    have hhi : hiW c = 191 := by unfold hiW; (repeat' split) <;> omega
    have g2 : (194 : Int) ≤ (c : Int) := by omega
    have g3 : ¬ (c : Int) ≤ 223 := by omega
    have g4 : (224 : Int) ≤ (c : Int) := by omega
    have g5 : (c : Int) ≤ 239 := by omega
    have g6 : ¬ (240 : Int) ≤ (c : Int) := by omega
    have e1 : ((c : Int) == 224) = false := by rw [beq_eq_false_iff_ne]; omega
    have e2 : ((c : Int) == 237) = false := by rw [beq_eq_false_iff_ne]; omega
    have e3 : ((c : Int) == 240) = false := by rw [beq_eq_false_iff_ne]; omega
    have e4 : ((c : Int) == 244) = false := by rw [beq_eq_false_iff_ne]; omega
    have hre := HR.out
    rw [chN, if_neg c1, hn, hlo, hhi] at hre
    have HR := Lib.hid hre
    clear hre hn hlo hhi cc c1 hlt
    by_cases d1 : s.length - i < 3
    · have hr : R = 0 := by rw [HR.out, if_pos (.inr (.inl d1))]
      subst hr
      have d2 : (s.length : Int) - (i : Int) < 3 := by omega
      clear HR d1
      go_enter Tryd.func25, Tryd.ntmps25
      go_wp2_with fail
      go_ret
      exact ⟨rfl, rfl⟩
    have d2 : ¬ (s.length : Int) - (i : Int) < 3 := by omega
    have hx1 := HC.out (i + 1) (by omega)
    have hm0 : (0 : Int) ≤ (i : Int) + 1 := by omega
    have hm1 : (i : Int) + 1 < (s.length : Int) := by omega
    have hb1 := (s.getD (i + 1) 0).toNat_lt
    generalize (s.getD (i + 1) 0).toNat = b1 at *
    by_cases d3 : b1 < 128
    · have hr : R = 0 := by rw [HR.out, if_pos (.inr (.inr (.inl d3)))]
      subst hr
      have d4 : (b1 : Int) < 128 := by omega
      clear HR d3 d1
      go_enter Tryd.func25, Tryd.ntmps25
      go_wp2_with fail
      go_ret
      exact ⟨rfl, rfl⟩
    have d4 : ¬ (b1 : Int) < 128 := by omega
    by_cases d5 : 191 < b1
    · have hr : R = 0 := by rw [HR.out, if_pos (.inr (.inr (.inr d5)))]
      subst hr
      have d6 : (191 : Int) < (b1 : Int) := by omega
      clear HR d3 d1 d5
      go_enter Tryd.func25, Tryd.ntmps25
      go_wp2_with fail
      go_ret
      exact ⟨rfl, rfl⟩
    have d6 : ¬ (191 : Int) < (b1 : Int) := by omega
    have hre := HR.out
    rw [if_neg (by omega)] at hre
    have HR := Lib.hid hre
    clear hre d3 d5 hb1
    go_enter Tryd.func25, Tryd.ntmps25
    go_wp2_with fail
    go_loopw [9] (fun k wr => ∃ m : Nat, k = .int .i64 m ∧ wr = W ∧ 2 ≤ m ∧ m ≤ 3 ∧ Hid (∀ j, 2 ≤ j → j < m → 128 ≤ (s.getD (i + j) 0).toNat ∧ (s.getD (i + j) 0).toNat ≤ 191)) (fun k _ => 3 - (RowKit.intOf k).toNat)
    case atStart => exact ⟨2, rfl, rfl, by omega, by omega, fun j h1 h2 => by omega⟩
    case round =>
      obtain ⟨m, rfl, hw9, hm2, hmn, HM⟩ := hrel
      have hw9 := hw9.symm
      subst hw9
      by_cases hk : m < 3
      · have hk1 : (m : Int) < 3 := by omega
        have hy := HC.out (i + m) (by omega)
        have hy0 : (0 : Int) ≤ (i : Int) + (m : Int) := by omega
        have hy1 : (i : Int) + (m : Int) < (s.length : Int) := by omega
        have hyw : IntKind.i64.wrap ((i : Int) + (m : Int)) = (i : Int) + (m : Int) := IntWalk.i64_in _ (by omega)
        have hyt : ((i : Int) + (m : Int)).toNat = i + m := by omega
        obtain ⟨b, hb⟩ : ∃ b, b = (s.getD (i + m) 0).toNat := ⟨_, rfl⟩
        rw [← hb] at hy
        have HBB := Lib.hid hb
        clear hb
        by_cases z1 : (b : Int) < 128
        · have hr : R = 0 := by
            have hb := HBB.out
            have := HR.out
            rcases (show m = 2 by omega) with rfl
            all_goals rw [this]
            · rw [if_pos ⟨by omega, .inl (by omega)⟩]
          subst hr
          go_wp2_with fail
          go_ret
          exact ⟨rfl, rfl⟩
        by_cases z2 : (191 : Int) < (b : Int)
        · have hr : R = 0 := by
            have hb := HBB.out
            have := HR.out
            rcases (show m = 2 by omega) with rfl
            all_goals rw [this]
            · rw [if_pos ⟨by omega, .inr (by omega)⟩]
          subst hr
          go_wp2_with fail
          go_ret
          exact ⟨rfl, rfl⟩
        · go_wp2_with fail
          refine ⟨⟨m + 1, by go_num, by first | rfl | trivial, by omega, by omega, fun j h1 h2 => ?_⟩, by simp [RowKit.intOf]; omega⟩
          by_cases hjm : j < m
          · exact HM.out j h1 hjm
          · obtain rfl : j = m := by omega
            have hb := HBB.out
            omega
      · have hk1 : ¬ (m : Int) < 3 := by omega
        obtain rfl : m = 3 := by omega
        have hr : R = 3 := by
          have := HR.out
          have q2 := HM.out 2 (by omega) (by omega)
          rw [this, if_neg (by omega), if_neg (by omega)]
        subst hr
        go_wp2_with fail
        go_ret
        exact ⟨rfl, rfl⟩
  by_cases cc : c = 240
  · have hn : nW c = 4 := by unfold nW; rw [if_neg c1, if_neg (by omega), if_neg (by omega), if_pos (by omega)]
    have hlo : loW c = 144 := by unfold loW; (repeat' split) <;> omega
    have hhi : hiW c = 191 := by unfold hiW; (repeat' split) <;> omega
    have g2 : (194 : Int) ≤ (c : Int) := by omega
    have g3 : ¬ (c : Int) ≤ 223 := by omega
    have g4 : (224 : Int) ≤ (c : Int) := by omega
    have g5 : ¬ (c : Int) ≤ 239 := by omega
    have g6 : (240 : Int) ≤ (c : Int) := by omega
    have g7 : (c : Int) ≤ 244 := by omega
    have e1 : ((c : Int) == 224) = false := by rw [beq_eq_false_iff_ne]; omega
    have e2 : ((c : Int) == 237) = false := by rw [beq_eq_false_iff_ne]; omega
    have e3 : ((c : Int) == 240) = true := by rw [beq_iff_eq]; omega
    have e4 : ((c : Int) == 244) = false := by rw [beq_eq_false_iff_ne]; omega
    have hre := HR.out
    rw [chN, if_neg c1, hn, hlo, hhi] at hre
    have HR := Lib.hid hre
    clear hre hn hlo hhi cc c1 hlt
    by_cases d1 : s.length - i < 4
    · have hr : R = 0 := by rw [HR.out, if_pos (.inr (.inl d1))]
      subst hr
      have d2 : (s.length : Int) - (i : Int) < 4 := by omega
      clear HR d1
      go_enter Tryd.func25, Tryd.ntmps25
      go_wp2_with fail
      go_ret
      exact ⟨rfl, rfl⟩
    have d2 : ¬ (s.length : Int) - (i : Int) < 4 := by omega
    have hx1 := HC.out (i + 1) (by omega)
    have hm0 : (0 : Int) ≤ (i : Int) + 1 := by omega
    have hm1 : (i : Int) + 1 < (s.length : Int) := by omega
    have hb1 := (s.getD (i + 1) 0).toNat_lt
    generalize (s.getD (i + 1) 0).toNat = b1 at *
    by_cases d3 : b1 < 144
    · have hr : R = 0 := by rw [HR.out, if_pos (.inr (.inr (.inl d3)))]
      subst hr
      have d4 : (b1 : Int) < 144 := by omega
      clear HR d3 d1
      go_enter Tryd.func25, Tryd.ntmps25
      go_wp2_with fail
      go_ret
      exact ⟨rfl, rfl⟩
    have d4 : ¬ (b1 : Int) < 144 := by omega
    by_cases d5 : 191 < b1
    · have hr : R = 0 := by rw [HR.out, if_pos (.inr (.inr (.inr d5)))]
      subst hr
      have d6 : (191 : Int) < (b1 : Int) := by omega
      clear HR d3 d1 d5
      go_enter Tryd.func25, Tryd.ntmps25
      go_wp2_with fail
      go_ret
      exact ⟨rfl, rfl⟩
    have d6 : ¬ (191 : Int) < (b1 : Int) := by omega
    have hre := HR.out
    rw [if_neg (by omega)] at hre
    have HR := Lib.hid hre
    clear hre d3 d5 hb1
    go_enter Tryd.func25, Tryd.ntmps25
    go_wp2_with fail
    go_loopw [9] (fun k wr => ∃ m : Nat, k = .int .i64 m ∧ wr = W ∧ 2 ≤ m ∧ m ≤ 4 ∧ Hid (∀ j, 2 ≤ j → j < m → 128 ≤ (s.getD (i + j) 0).toNat ∧ (s.getD (i + j) 0).toNat ≤ 191)) (fun k _ => 4 - (RowKit.intOf k).toNat)
    case atStart => exact ⟨2, rfl, rfl, by omega, by omega, fun j h1 h2 => by omega⟩
    case round =>
      obtain ⟨m, rfl, hw9, hm2, hmn, HM⟩ := hrel
      have hw9 := hw9.symm
      subst hw9
      by_cases hk : m < 4
      · have hk1 : (m : Int) < 4 := by omega
        have hy := HC.out (i + m) (by omega)
        have hy0 : (0 : Int) ≤ (i : Int) + (m : Int) := by omega
        have hy1 : (i : Int) + (m : Int) < (s.length : Int) := by omega
        have hyw : IntKind.i64.wrap ((i : Int) + (m : Int)) = (i : Int) + (m : Int) := IntWalk.i64_in _ (by omega)
        have hyt : ((i : Int) + (m : Int)).toNat = i + m := by omega
        obtain ⟨b, hb⟩ : ∃ b, b = (s.getD (i + m) 0).toNat := ⟨_, rfl⟩
        rw [← hb] at hy
        have HBB := Lib.hid hb
        clear hb
        by_cases z1 : (b : Int) < 128
        · have hr : R = 0 := by
            have hb := HBB.out
            have := HR.out
            rcases (show m = 2 ∨ m = 3 by omega) with rfl | rfl
            · rw [this, if_pos ⟨by omega, .inl (by omega)⟩]
            · rw [this]
              split
              · rfl
              · rw [if_pos ⟨by omega, .inl (by omega)⟩]
          subst hr
          go_wp2_with fail
          go_ret
          exact ⟨rfl, rfl⟩
        by_cases z2 : (191 : Int) < (b : Int)
        · have hr : R = 0 := by
            have hb := HBB.out
            have := HR.out
            rcases (show m = 2 ∨ m = 3 by omega) with rfl | rfl
            · rw [this, if_pos ⟨by omega, .inr (by omega)⟩]
            · rw [this]
              split
              · rfl
              · rw [if_pos ⟨by omega, .inr (by omega)⟩]
          subst hr
          go_wp2_with fail
          go_ret
          exact ⟨rfl, rfl⟩
        · go_wp2_with fail
          refine ⟨⟨m + 1, by go_num, by first | rfl | trivial, by omega, by omega, fun j h1 h2 => ?_⟩, by simp [RowKit.intOf]; omega⟩
          by_cases hjm : j < m
          · exact HM.out j h1 hjm
          · obtain rfl : j = m := by omega
            have hb := HBB.out
            omega
      · have hk1 : ¬ (m : Int) < 4 := by omega
        obtain rfl : m = 4 := by omega
        have hr : R = 4 := by
          have := HR.out
          have q2 := HM.out 2 (by omega) (by omega)
          have q3 := HM.out 3 (by omega) (by omega)
          rw [this, if_neg (by omega), if_neg (by omega)]
        subst hr
        go_wp2_with fail
        go_ret
        exact ⟨rfl, rfl⟩
  by_cases cc : c = 244
  · have hn : nW c = 4 := by unfold nW; rw [if_neg c1, if_neg (by omega), if_neg (by omega), if_pos (by omega)]
    have hlo : loW c = 128 := by unfold loW; (repeat' split) <;> omega
    have hhi : hiW c = 143 := by unfold hiW; (repeat' split) <;> omega
    have g2 : (194 : Int) ≤ (c : Int) := by omega
    have g3 : ¬ (c : Int) ≤ 223 := by omega
    have g4 : (224 : Int) ≤ (c : Int) := by omega
    have g5 : ¬ (c : Int) ≤ 239 := by omega
    have g6 : (240 : Int) ≤ (c : Int) := by omega
    have g7 : (c : Int) ≤ 244 := by omega
    have e1 : ((c : Int) == 224) = false := by rw [beq_eq_false_iff_ne]; omega
    have e2 : ((c : Int) == 237) = false := by rw [beq_eq_false_iff_ne]; omega
    have e3 : ((c : Int) == 240) = false := by rw [beq_eq_false_iff_ne]; omega
    have e4 : ((c : Int) == 244) = true := by rw [beq_iff_eq]; omega
    have hre := HR.out
    rw [chN, if_neg c1, hn, hlo, hhi] at hre
    have HR := Lib.hid hre
    clear hre hn hlo hhi cc c1 hlt
    by_cases d1 : s.length - i < 4
    · have hr : R = 0 := by rw [HR.out, if_pos (.inr (.inl d1))]
      subst hr
      have d2 : (s.length : Int) - (i : Int) < 4 := by omega
      clear HR d1
      go_enter Tryd.func25, Tryd.ntmps25
      go_wp2_with fail
      go_ret
      exact ⟨rfl, rfl⟩
    have d2 : ¬ (s.length : Int) - (i : Int) < 4 := by omega
    have hx1 := HC.out (i + 1) (by omega)
    have hm0 : (0 : Int) ≤ (i : Int) + 1 := by omega
    have hm1 : (i : Int) + 1 < (s.length : Int) := by omega
    have hb1 := (s.getD (i + 1) 0).toNat_lt
    generalize (s.getD (i + 1) 0).toNat = b1 at *
    by_cases d3 : b1 < 128
    · have hr : R = 0 := by rw [HR.out, if_pos (.inr (.inr (.inl d3)))]
      subst hr
      have d4 : (b1 : Int) < 128 := by omega
      clear HR d3 d1
      go_enter Tryd.func25, Tryd.ntmps25
      go_wp2_with fail
      go_ret
      exact ⟨rfl, rfl⟩
    have d4 : ¬ (b1 : Int) < 128 := by omega
    by_cases d5 : 143 < b1
    · have hr : R = 0 := by rw [HR.out, if_pos (.inr (.inr (.inr d5)))]
      subst hr
      have d6 : (143 : Int) < (b1 : Int) := by omega
      clear HR d3 d1 d5
      go_enter Tryd.func25, Tryd.ntmps25
      go_wp2_with fail
      go_ret
      exact ⟨rfl, rfl⟩
    have d6 : ¬ (143 : Int) < (b1 : Int) := by omega
    have hre := HR.out
    rw [if_neg (by omega)] at hre
    have HR := Lib.hid hre
    clear hre d3 d5 hb1
    go_enter Tryd.func25, Tryd.ntmps25
    go_wp2_with fail
    go_loopw [9] (fun k wr => ∃ m : Nat, k = .int .i64 m ∧ wr = W ∧ 2 ≤ m ∧ m ≤ 4 ∧ Hid (∀ j, 2 ≤ j → j < m → 128 ≤ (s.getD (i + j) 0).toNat ∧ (s.getD (i + j) 0).toNat ≤ 191)) (fun k _ => 4 - (RowKit.intOf k).toNat)
    case atStart => exact ⟨2, rfl, rfl, by omega, by omega, fun j h1 h2 => by omega⟩
    case round =>
      obtain ⟨m, rfl, hw9, hm2, hmn, HM⟩ := hrel
      have hw9 := hw9.symm
      subst hw9
      by_cases hk : m < 4
      · have hk1 : (m : Int) < 4 := by omega
        have hy := HC.out (i + m) (by omega)
        have hy0 : (0 : Int) ≤ (i : Int) + (m : Int) := by omega
        have hy1 : (i : Int) + (m : Int) < (s.length : Int) := by omega
        have hyw : IntKind.i64.wrap ((i : Int) + (m : Int)) = (i : Int) + (m : Int) := IntWalk.i64_in _ (by omega)
        have hyt : ((i : Int) + (m : Int)).toNat = i + m := by omega
        obtain ⟨b, hb⟩ : ∃ b, b = (s.getD (i + m) 0).toNat := ⟨_, rfl⟩
        rw [← hb] at hy
        have HBB := Lib.hid hb
        clear hb
        by_cases z1 : (b : Int) < 128
        · have hr : R = 0 := by
            have hb := HBB.out
            have := HR.out
            rcases (show m = 2 ∨ m = 3 by omega) with rfl | rfl
            · rw [this, if_pos ⟨by omega, .inl (by omega)⟩]
            · rw [this]
              split
              · rfl
              · rw [if_pos ⟨by omega, .inl (by omega)⟩]
          subst hr
          go_wp2_with fail
          go_ret
          exact ⟨rfl, rfl⟩
        by_cases z2 : (191 : Int) < (b : Int)
        · have hr : R = 0 := by
            have hb := HBB.out
            have := HR.out
            rcases (show m = 2 ∨ m = 3 by omega) with rfl | rfl
            · rw [this, if_pos ⟨by omega, .inr (by omega)⟩]
            · rw [this]
              split
              · rfl
              · rw [if_pos ⟨by omega, .inr (by omega)⟩]
          subst hr
          go_wp2_with fail
          go_ret
          exact ⟨rfl, rfl⟩
        · go_wp2_with fail
          refine ⟨⟨m + 1, by go_num, by first | rfl | trivial, by omega, by omega, fun j h1 h2 => ?_⟩, by simp [RowKit.intOf]; omega⟩
          by_cases hjm : j < m
          · exact HM.out j h1 hjm
          · obtain rfl : j = m := by omega
            have hb := HBB.out
            omega
      · have hk1 : ¬ (m : Int) < 4 := by omega
        obtain rfl : m = 4 := by omega
        have hr : R = 4 := by
          have := HR.out
          have q2 := HM.out 2 (by omega) (by omega)
          have q3 := HM.out 3 (by omega) (by omega)
          rw [this, if_neg (by omega), if_neg (by omega)]
        subst hr
        go_wp2_with fail
        go_ret
        exact ⟨rfl, rfl⟩
  by_cases cc : c ≤ 243
  · have hn : nW c = 4 := by unfold nW; rw [if_neg c1, if_neg (by omega), if_neg (by omega), if_pos (by omega)]
    have hlo : loW c = 128 := by unfold loW; (repeat' split) <;> omega
    have hhi : hiW c = 191 := by unfold hiW; (repeat' split) <;> omega
    have g2 : (194 : Int) ≤ (c : Int) := by omega
    have g3 : ¬ (c : Int) ≤ 223 := by omega
    have g4 : (224 : Int) ≤ (c : Int) := by omega
    have g5 : ¬ (c : Int) ≤ 239 := by omega
    have g6 : (240 : Int) ≤ (c : Int) := by omega
    have g7 : (c : Int) ≤ 244 := by omega
    have e1 : ((c : Int) == 224) = false := by rw [beq_eq_false_iff_ne]; omega
    have e2 : ((c : Int) == 237) = false := by rw [beq_eq_false_iff_ne]; omega
    have e3 : ((c : Int) == 240) = false := by rw [beq_eq_false_iff_ne]; omega
    have e4 : ((c : Int) == 244) = false := by rw [beq_eq_false_iff_ne]; omega
    have hre := HR.out
    rw [chN, if_neg c1, hn, hlo, hhi] at hre
    have HR := Lib.hid hre
    clear hre hn hlo hhi cc c1 hlt
    by_cases d1 : s.length - i < 4
    · have hr : R = 0 := by rw [HR.out, if_pos (.inr (.inl d1))]
      subst hr
      have d2 : (s.length : Int) - (i : Int) < 4 := by omega
      clear HR d1
      go_enter Tryd.func25, Tryd.ntmps25
      go_wp2_with fail
      go_ret
      exact ⟨rfl, rfl⟩
    have d2 : ¬ (s.length : Int) - (i : Int) < 4 := by omega
    have hx1 := HC.out (i + 1) (by omega)
    have hm0 : (0 : Int) ≤ (i : Int) + 1 := by omega
    have hm1 : (i : Int) + 1 < (s.length : Int) := by omega
    have hb1 := (s.getD (i + 1) 0).toNat_lt
    generalize (s.getD (i + 1) 0).toNat = b1 at *
    by_cases d3 : b1 < 128
    · have hr : R = 0 := by rw [HR.out, if_pos (.inr (.inr (.inl d3)))]
      subst hr
      have d4 : (b1 : Int) < 128 := by omega
      clear HR d3 d1
      go_enter Tryd.func25, Tryd.ntmps25
      go_wp2_with fail
      go_ret
      exact ⟨rfl, rfl⟩
    have d4 : ¬ (b1 : Int) < 128 := by omega
    by_cases d5 : 191 < b1
    · have hr : R = 0 := by rw [HR.out, if_pos (.inr (.inr (.inr d5)))]
      subst hr
      have d6 : (191 : Int) < (b1 : Int) := by omega
      clear HR d3 d1 d5
      go_enter Tryd.func25, Tryd.ntmps25
      go_wp2_with fail
      go_ret
      exact ⟨rfl, rfl⟩
    have d6 : ¬ (191 : Int) < (b1 : Int) := by omega
    have hre := HR.out
    rw [if_neg (by omega)] at hre
    have HR := Lib.hid hre
    clear hre d3 d5 hb1
    go_enter Tryd.func25, Tryd.ntmps25
    go_wp2_with fail
    go_loopw [9] (fun k wr => ∃ m : Nat, k = .int .i64 m ∧ wr = W ∧ 2 ≤ m ∧ m ≤ 4 ∧ Hid (∀ j, 2 ≤ j → j < m → 128 ≤ (s.getD (i + j) 0).toNat ∧ (s.getD (i + j) 0).toNat ≤ 191)) (fun k _ => 4 - (RowKit.intOf k).toNat)
    case atStart => exact ⟨2, rfl, rfl, by omega, by omega, fun j h1 h2 => by omega⟩
    case round =>
      obtain ⟨m, rfl, hw9, hm2, hmn, HM⟩ := hrel
      have hw9 := hw9.symm
      subst hw9
      by_cases hk : m < 4
      · have hk1 : (m : Int) < 4 := by omega
        have hy := HC.out (i + m) (by omega)
        have hy0 : (0 : Int) ≤ (i : Int) + (m : Int) := by omega
        have hy1 : (i : Int) + (m : Int) < (s.length : Int) := by omega
        have hyw : IntKind.i64.wrap ((i : Int) + (m : Int)) = (i : Int) + (m : Int) := IntWalk.i64_in _ (by omega)
        have hyt : ((i : Int) + (m : Int)).toNat = i + m := by omega
        obtain ⟨b, hb⟩ : ∃ b, b = (s.getD (i + m) 0).toNat := ⟨_, rfl⟩
        rw [← hb] at hy
        have HBB := Lib.hid hb
        clear hb
        by_cases z1 : (b : Int) < 128
        · have hr : R = 0 := by
            have hb := HBB.out
            have := HR.out
            rcases (show m = 2 ∨ m = 3 by omega) with rfl | rfl
            · rw [this, if_pos ⟨by omega, .inl (by omega)⟩]
            · rw [this]
              split
              · rfl
              · rw [if_pos ⟨by omega, .inl (by omega)⟩]
          subst hr
          go_wp2_with fail
          go_ret
          exact ⟨rfl, rfl⟩
        by_cases z2 : (191 : Int) < (b : Int)
        · have hr : R = 0 := by
            have hb := HBB.out
            have := HR.out
            rcases (show m = 2 ∨ m = 3 by omega) with rfl | rfl
            · rw [this, if_pos ⟨by omega, .inr (by omega)⟩]
            · rw [this]
              split
              · rfl
              · rw [if_pos ⟨by omega, .inr (by omega)⟩]
          subst hr
          go_wp2_with fail
          go_ret
          exact ⟨rfl, rfl⟩
        · go_wp2_with fail
          refine ⟨⟨m + 1, by go_num, by first | rfl | trivial, by omega, by omega, fun j h1 h2 => ?_⟩, by simp [RowKit.intOf]; omega⟩
          by_cases hjm : j < m
          · exact HM.out j h1 hjm
          · obtain rfl : j = m := by omega
            have hb := HBB.out
            omega
      · have hk1 : ¬ (m : Int) < 4 := by omega
        obtain rfl : m = 4 := by omega
        have hr : R = 4 := by
          have := HR.out
          have q2 := HM.out 2 (by omega) (by omega)
          have q3 := HM.out 3 (by omega) (by omega)
          rw [this, if_neg (by omega), if_neg (by omega)]
        subst hr
        go_wp2_with fail
        go_ret
        exact ⟨rfl, rfl⟩
  have hr : R = 0 := by rw [HR.out, chN, if_neg c1, if_pos (.inl (by unfold nW; rw [if_neg c1, if_neg (by omega), if_neg (by omega), if_neg (by omega)]))]
  subst hr
  have g2 : (194 : Int) ≤ (c : Int) := by omega
  have g3 : ¬ (c : Int) ≤ 223 := by omega
  have g4 : (224 : Int) ≤ (c : Int) := by omega
  have g5 : ¬ (c : Int) ≤ 239 := by omega
  have g6 : (240 : Int) ≤ (c : Int) := by omega
  have g7 : ¬ (c : Int) ≤ 244 := by omega
  have e1 : ((c : Int) == 224) = false := by rw [beq_eq_false_iff_ne]; omega
  have e2 : ((c : Int) == 237) = false := by rw [beq_eq_false_iff_ne]; omega
  have e3 : ((c : Int) == 240) = false := by rw [beq_eq_false_iff_ne]; omega
  have e4 : ((c : Int) == 244) = false := by rw [beq_eq_false_iff_ne]; omega
  clear HR
  go_enter Tryd.func25, Tryd.ntmps25
  go_wp2_with fail
  go_ret
  exact ⟨rfl, rfl⟩
end
end Go.Proofs.YtmjooghfghmngaaDoor
