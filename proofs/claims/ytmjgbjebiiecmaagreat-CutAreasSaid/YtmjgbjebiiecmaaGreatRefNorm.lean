/- The contracts of the document's own answers Less, Least and Same. -/
import Derived.Test.YtmjgbjebiiecmaaGreatItems
import Derived.Test.YtmjgbjebiiecmaaGreatRefCheck
namespace Go.Proofs.YtmjgbjebiiecmaaGreat
open Go.RowKit

/-- By X, then by Y. -/
def lessB (a b : Int × Int) : Bool := decide (a.1 < b.1) || (decide (a.1 = b.1) && decide (a.2 < b.2))
set_option maxHeartbeats 400000 in
theorem ref_less (a b : Int × Int) (w : World) :
    Calls Tryz.prog 105 #[.agg #[.int .i64 a.1, .int .i64 a.2], .agg #[.int .i64 b.1, .int .i64 b.2]] w fun e w' => e = .returned (.bool (lessB a b)) ∧ Below w.heap.size w w' := by
  have HG := Lib.hid (show lessB a b = (decide (a.1 < b.1) || (decide (a.1 = b.1) && decide (a.2 < b.2))) from rfl)
  have hcs : a.1 < b.1 ∨ (¬ a.1 < b.1 ∧ ¬ a.1 = b.1) ∨ (¬ a.1 < b.1 ∧ a.1 = b.1 ∧ a.2 < b.2) ∨ (¬ a.1 < b.1 ∧ a.1 = b.1 ∧ ¬ a.2 < b.2) := by omega
  rcases hcs with h1 | ⟨h1, h2⟩ | ⟨h1, h2, h3⟩ | ⟨h1, h2, h3⟩
  · have HK : Hid (lessB a b = true) := by unfold Hid; rw [HG.out, decide_eq_true h1]; rfl
    clear HG
    go_enter Tryz.func105, Tryz.ntmps105
    go_wp2
    go_ret
    rw [HK.out]
    exact ⟨rfl, by go_grown⟩
  · have HK : Hid (lessB a b = false) := by unfold Hid; rw [HG.out, decide_eq_false h1, decide_eq_false h2]; rfl
    have e2 : (a.1 == b.1) = false := by simpa using h2
    clear HG h2
    go_enter Tryz.func105, Tryz.ntmps105
    go_wp2
    go_ret
    rw [HK.out]
    exact ⟨rfl, by go_grown⟩
  · have HK : Hid (lessB a b = true) := by unfold Hid; rw [HG.out, decide_eq_true h2, decide_eq_true h3, decide_eq_false h1]; rfl
    have e2 : (a.1 == b.1) = true := by simpa using h2
    clear HG h2
    go_enter Tryz.func105, Tryz.ntmps105
    go_wp2
    go_ret
    rw [HK.out]
    exact ⟨rfl, by go_grown⟩
  · have HK : Hid (lessB a b = false) := by unfold Hid; rw [HG.out, decide_eq_false h1, decide_eq_false h3, Bool.and_false]; rfl
    have e2 : (a.1 == b.1) = true := by simpa using h2
    clear HG h2
    go_enter Tryz.func105, Tryz.ntmps105
    go_wp2
    go_ret
    rw [HK.out]
    exact ⟨rfl, by go_grown⟩

theorem take_same {ps qs : List (Int × Int)} {k : Nat} (h1 : k < ps.length) (h2 : k < qs.length) (h : ps.take k = qs.take k) : ps.take (k + 1) = qs.take (k + 1) ↔ ps[k] = qs[k] := by
  rw [List.take_succ_eq_append_getElem h1, List.take_succ_eq_append_getElem h2, h]
  constructor
  · intro e; exact List.head_eq_of_cons_eq (List.append_cancel_left e)
  · intro e; rw [e]
theorem same_end {ps qs : List (Int × Int)} {k : Nat} (hk : ¬ k < ps.length ∨ ¬ k < qs.length) (h1 : k ≤ ps.length) (h2 : k ≤ qs.length) (h : ps.take k = qs.take k) : decide (ps = qs) = ((ps.length : Int) == (qs.length : Int)) := by
  rw [Bool.eq_iff_iff, decide_eq_true_iff, beq_iff_eq]
  constructor
  · rintro rfl; rfl
  · intro e
    have e1 : k = ps.length := by omega
    have e2 : k = qs.length := by omega
    rw [e1, List.take_length, ← e1, e2, List.take_length] at h
    exact h

set_option maxRecDepth 100000 in
set_option maxHeartbeats 2000000 in
theorem ref_same (ps qs : List (Int × Int)) (A B : Option Addr) (ca cb : Nat) (hn : ps.length ≤ maxLen) (w : World) (hr : Pts w w.heap.size A ps) (hr' : Pts w w.heap.size B qs) :
    Calls Tryz.prog 29 #[.slice A ps.length ca, .slice B qs.length cb] w fun e w' => e = .returned (.bool (decide (ps = qs))) ∧ Below w.heap.size w w' := by
  unfold maxLen at hn
  have HB0 := Hold.refl w
  go_enter Tryz.func29, Tryz.ntmps29
  go_wp2_with fail
  go_loopg [5] ps.length (fun g i wr => ∃ k : Nat, k ≤ ps.length ∧ k ≤ qs.length ∧ g = ps.length - k ∧ i = .int .i64 k ∧ ps.take k = qs.take k ∧ Hold w [] wr)
  case atStart => exact ⟨0, Nat.zero_le _, Nat.zero_le _, rfl, rfl, rfl, HB0⟩
  case round =>
    clear HB0
    obtain ⟨k, hk, hk', hgk, rfl, htk, HB⟩ := hrel
    have HGK := Lib.hid hgk
    have HTK := Lib.hid htk
    clear hgk htk
    have b0 : (0 : Int) ≤ (k : Int) := by omega
    by_cases h1 : k < ps.length
    · by_cases h2 : k < qs.length
      · obtain ⟨ad, rfl, -, d0, d1⟩ := hr.at HB.1 h1
        obtain ⟨ae, rfl, -, d2, d3⟩ := hr'.at HB.1 h2
        have b1 : (k : Int) < (ps.length : Int) := by omega
        have b2 : (k : Int) < (qs.length : Int) := by omega
        have HS := Lib.hid (take_same h1 h2 HTK.out)
        have HNE : Hid (ps[k] ≠ qs[k] → decide (ps = qs) = false) := fun h => decide_eq_false fun e => h (by simp only [e])
        clear hr hr'
        generalize ps[k] = a at *
        generalize qs[k] = b at *
        have hcs : (a.1 = b.1 ∧ a.2 = b.2) ∨ (a.1 = b.1 ∧ ¬ a.2 = b.2) ∨ ¬ a.1 = b.1 := by omega
        rcases hcs with ⟨h3, h4⟩ | ⟨h3, h4⟩ | h3
        · have HT := Lib.hid (HS.out.2 (Prod.ext h3 h4))
          have e1 : (a.1 == b.1) = true := by simpa using h3
          have e2 : (a.2 == b.2) = true := by simpa using h4
          clear h3 h4 HS HNE HTK
          go_upto_region 4 with (fail)
          go_quiet (fail)
          have HK := Lib.hid (HB.drewN nq)
          clear HB
          go_wp2
          go_roundg (ps.length - (k + 1))
          case measure => have := HGK.out; omega
          case rel => exact ⟨k + 1, by omega, by omega, rfl, by go_num, HT.out, HK.out⟩
        · have HT := Lib.hid (HNE.out (fun e => h4 (congrArg Prod.snd e)))
          have e1 : (a.1 == b.1) = true := by simpa using h3
          have e2 : (a.2 == b.2) = false := by simpa using h4
          clear h3 h4 HS HNE HTK
          go_upto_region 4 with (fail)
          go_quiet (fail)
          have HK := Lib.hid (HB.drewN nq).1
          clear HB
          go_wp2
          go_ret
          rw [HT.out]
          exact ⟨rfl, HK.out⟩
        · have HT := Lib.hid (HNE.out (fun e => h3 (congrArg Prod.fst e)))
          have e1 : (a.1 == b.1) = false := by simpa using h3
          clear h3 HS HNE HTK
          go_upto_region 4 with (fail)
          go_quiet (fail)
          have HK := Lib.hid (HB.drewN nq).1
          clear HB
          go_wp2
          go_ret
          rw [HT.out]
          exact ⟨rfl, HK.out⟩
      · have HE := Lib.hid (same_end (.inr h2) hk hk' HTK.out)
        have HK := Lib.hid HB.1
        clear HTK HB hr hr'
        go_wp2
        go_ret
        rw [HE.out]
        exact ⟨rfl, HK.out⟩
    · have HE := Lib.hid (same_end (.inl h1) hk hk' HTK.out)
      have HK := Lib.hid HB.1
      clear HTK HB hr hr'
      go_wp2
      go_ret
      rw [HE.out]
      exact ⟨rfl, HK.out⟩

/-- The place of the least corner so far. -/
def leastI (ps : List (Int × Int)) : Nat → Nat
  | 0 => 0
  | i + 1 => if lessB (nx ps i) (nx ps (leastI ps i)) then i else leastI ps i
theorem leastI_le (ps : List (Int × Int)) : ∀ i, leastI ps i ≤ i
  | 0 => Nat.le_refl _
  | i + 1 => by
    have := leastI_le ps i
    rw [leastI]
    split <;> omega
/-- A ring, begun elsewhere. -/
def rotL (ps : List (Int × Int)) (k : Nat) : List (Int × Int) := (List.range ps.length).map fun i => nx ps (k + i)
theorem rotL_length (ps : List (Int × Int)) (k : Nat) : (rotL ps k).length = ps.length := by unfold rotL; simp
theorem rotL_get (ps : List (Int × Int)) (k i : Nat) (hi : i < ps.length) : (rotL ps k)[i]? = some (nx ps (k + i)) := by
  unfold rotL; rw [List.getElem?_map, List.getElem?_range hi]; rfl
theorem rotL_take {ps : List (Int × Int)} {k i : Nat} (hi : i < ps.length) : (rotL ps k).take (i + 1) = (rotL ps k).take i ++ [nx ps (k + i)] := by
  rw [List.take_add_one, rotL_get ps k i hi]
  rfl
theorem nx_rotL (ps : List (Int × Int)) (k i : Nat) (h : 0 < ps.length) : nx (rotL ps k) i = nx ps (i + k) := by
  have hi := Nat.mod_lt i h
  have e : nx (rotL ps k) i = nx (rotL ps k) (i % ps.length) := by rw [← rotL_length ps k, nx_mod]
  rw [e]
  unfold nx
  rw [rotL_length, Nat.mod_mod, List.getD_eq_getElem?_getD, rotL_get ps k _ hi, Option.getD_some]
  unfold nx
  rw [Nat.add_comm k, Nat.mod_add_mod]
theorem any_place {x n : Nat} (hn : 0 < n) (y z : Nat) (hx : x = y + z) : ∃ j : Nat, j < n ∧ x % n = j ∧ ((y : Int) + (z : Int)) % (n : Int) = (j : Int) ∧ ((y : Int) + (z : Int)).tmod (n : Int) = (j : Int) := by
  subst hx
  refine ⟨(y + z) % n, Nat.mod_lt _ hn, rfl, ?_, ?_⟩
  · rw [Int.natCast_emod]; rfl
  · rw [Int.tmod_eq_emod_of_nonneg (by omega), Int.natCast_emod]; rfl
section
variable {w W : World} {L : List (Nat × Array Value × TypeId)} {q0 q1 : Addr} {a b : Int × Int}
theorem Hold.fp2 (h : Hold w L W) (f0 : FP w q0 a) (f1 : FP w q1 b) : W.cell? q0 = some (.int .i64 a.1) ∧ W.cell? ⟨q0.block, q0.off + 1, none⟩ = some (.int .i64 a.2) ∧ W.cell? q1 = some (.int .i64 b.1) ∧ W.cell? ⟨q1.block, q1.off + 1, none⟩ = some (.int .i64 b.2) :=
  ⟨(h.fp f0).1, (h.fp f0).2, (h.fp f1).1, (h.fp f1).2⟩
end

set_option maxRecDepth 100000 in
set_option maxHeartbeats 2000000 in
theorem ref_least (ps : List (Int × Int)) (A : Option Addr) (cap : Nat) (hn : ps.length ≤ 1000000000) (w : World) (hr : Pts w w.heap.size A ps) :
    Calls Tryz.prog 89 #[.slice A ps.length cap] w fun e w' => ∃ v, e = .returned v ∧ Row w v (rotL ps (leastI ps ps.length)) w' := by
  have HB0 := Hold.refl w
  have HR := Lib.hid hr
  clear hr
  go_enter Tryz.func89, Tryz.ntmps89
  go_wp2_with fail
  go_loopg [3, 4] ps.length (fun g l i wr => ∃ k : Nat, k ≤ ps.length ∧ g = ps.length - k ∧ i = .int .i64 k ∧ l = .int .i64 (leastI ps k) ∧ Hold w [] wr)
  case atStart => exact ⟨0, Nat.zero_le _, rfl, rfl, rfl, HB0⟩
  case round =>
    clear HB0
    obtain ⟨k, hk, hgk, rfl, rfl, HB⟩ := hrel
    have HGK := Lib.hid hgk
    clear hgk
    by_cases hlt : k < ps.length
    · have hll := leastI_le ps k
      obtain ⟨ad, hA, F0⟩ := HR.out.fp hlt (Nat.mod_eq_of_lt hlt)
      obtain ⟨ad', e', F1⟩ := HR.out.fp (show leastI ps k < ps.length by omega) (Nat.mod_eq_of_lt (show leastI ps k < ps.length by omega))
      obtain rfl := Option.some.inj (hA.symm.trans e')
      have HST := Lib.hid (show leastI ps (k + 1) = if lessB (nx ps k) (nx ps (leastI ps k)) then k else leastI ps k from rfl)
      have HF0 := Lib.hid F0
      have HF1 := Lib.hid F1
      subst hA
      have b0 : (0 : Int) ≤ (k : Int) := by omega
      have b1 : (k : Int) < (ps.length : Int) := by omega
      have b2 : (0 : Int) ≤ (leastI ps k : Int) := by omega
      have b3 : (leastI ps k : Int) < (ps.length : Int) := by omega
      clear F0 F1 e' hll
      generalize leastI ps k = l at *
      generalize nx ps k = a at *
      generalize nx ps l = b at *
      go_upto_region 5 with (fail)
      go_cut [21] (fun s21 wx => s21 = .bool (lessB a b) ∧ Hold w [] wx)
      case first =>
        go_region_held3 (fun W => W.cell? (ad.add (k * 2)) = some (.int .i64 a.1) ∧ W.cell? ⟨(ad.add (k * 2)).block, (ad.add (k * 2)).off + 1, none⟩ = some (.int .i64 a.2) ∧ W.cell? (ad.add (l * 2)) = some (.int .i64 b.1) ∧ W.cell? ⟨(ad.add (l * 2)).block, (ad.add (l * 2)).off + 1, none⟩ = some (.int .i64 b.2)) (first | exact Hold.fp2 (L := []) (by assumption) HF0.out HF1.out | exact Hold.fp2 (L := []) (Hold.drew (by assumption)) HF0.out HF1.out) ((go_at_call 105; (with_reducible refine (ref_less a b _).mono ?_); rintro e w' ⟨rfl, hB⟩; have HS' := Hold.on (L := []) (by first | assumption | exact Hold.drew (by assumption)) hB))
        go_wp2_with fail
        go_meet
        exact ⟨rfl, HS'⟩
      case rest =>
        clear HB HF0 HF1
        obtain ⟨rfl, HB⟩ := hcut
        have HK := Lib.hid HB
        clear HB
        cases h : lessB a b
        · have HE : Hid (leastI ps (k + 1) = l) := by unfold Hid; rw [HST.out, h]; rfl
          clear HST
          go_wp2
          go_roundg (ps.length - (k + 1))
          case measure => have := HGK.out; omega
          case rel => exact ⟨k + 1, by omega, rfl, by go_num, by rw [HE.out], HK.out⟩
        · have HE : Hid (leastI ps (k + 1) = k) := by unfold Hid; rw [HST.out, h]; rfl
          clear HST
          go_wp2
          go_roundg (ps.length - (k + 1))
          case measure => have := HGK.out; omega
          case rel => exact ⟨k + 1, by omega, rfl, by go_num, by rw [HE.out], HK.out⟩
    · obtain rfl : k = ps.length := by omega
      have hll := leastI_le ps ps.length
      have HLL := Lib.hid hll
      clear hll
      generalize hl : leastI ps ps.length = l at *
      have HL := Lib.hid hl
      clear hl
      have HR0 : Row w (.slice none 0 0) [] _ := Row.nil HB.1
      clear HB
      go_wp2_with fail
      go_loopg [5, 6] ps.length (fun g v i wr => ∃ m : Nat, m ≤ ps.length ∧ g = ps.length - m ∧ i = .int .i64 m ∧ Row w v ((rotL ps l).take m) wr)
      case atStart => exact ⟨0, Nat.zero_le _, rfl, rfl, by rw [List.take_zero]; exact HR0⟩
      case round =>
        clear HR0
        obtain ⟨m, hm, hgm, rfl, HV⟩ := hrel
        have HGM := Lib.hid hgm
        clear hgm
        by_cases hltm : m < ps.length
        · obtain ⟨j, hj, e1, e2, e3⟩ := any_place (show 0 < ps.length by omega) l m rfl
          obtain ⟨ad, rfl, -, d0, d1⟩ := HR.out.nx HV.1 hj e1
          have HT := Lib.hid (rotL_take (k := l) hltm)
          have hlen : ((rotL ps l).take m).length ≤ 1000000000 := by
            have := List.length_take_le m (rotL ps l)
            omega
          have HLN := Lib.hid hlen
          have b0 : (0 : Int) ≤ (m : Int) := by omega
          have b1 : (m : Int) < (ps.length : Int) := by omega
          have b4 : (0 : Int) ≤ (j : Int) := by omega
          have b5 : (j : Int) < (ps.length : Int) := by omega
          have b6 : (0 : Int) ≤ (l : Int) := by omega
          have b7 : (l : Int) ≤ 1000000000 := by have := HLL.out; omega
          have b8 : (m : Int) ≤ 1000000000 := by omega
          clear e1 hlen
          generalize nx ps (l + m) = p at *
          generalize (rotL ps l).take m = qs at *
          go_wp2_with (at_builtin; refine append_pt _ Tryz.underlying23 HV HLN.out p _ rfl _ _ rfl rfl _ rfl ?_; rintro v' w2 HR2)
          go_roundg (ps.length - (m + 1))
          case measure => have := HGM.out; omega
          case rel => exact ⟨m + 1, by omega, rfl, by go_num, by rw [HT.out]; exact HR2⟩
        · obtain rfl : m = ps.length := by omega
          have e : (rotL ps l).take ps.length = rotL ps l := by
            rw [List.take_of_length_le (by rw [rotL_length]; omega)]
          rw [e] at HV
          have HK := Lib.hid HV
          clear HV e
          go_wp2
          go_ret
          exact ⟨_, rfl, by rw [HL.out]; exact HK.out⟩
end Go.Proofs.YtmjgbjebiiecmaaGreat
