/- The contracts of the document's own answers Less, Least and Same. -/
import Derived.Test.YtjlnjjmomohpaaaGreatItems
import Derived.Test.YtjlnjjmomohpaaaGreatRefCheck
import Derived.Test.YtjlnjjmomohpaaaGreatTile
namespace Go.Proofs.YtjlnjjmomohpaaaGreat
open Go.RowKit

def lessB (a b : Int × Int) : Bool := decide (a.1 < b.1) || (decide (a.1 = b.1) && decide (a.2 < b.2))
set_option maxHeartbeats 400000 in
theorem ref_less (a b : Int × Int) (w : World) :
  Calls Tryz.prog 116 #[.agg #[.int .i64 a.1, .int .i64 a.2], .agg #[.int .i64 b.1, .int .i64 b.2]] w fun e w' => e = .returned (.bool (lessB a b)) ∧ Below w.heap.size w w' := by
 have HG := Lib.hid (show lessB a b = (decide (a.1 < b.1) || (decide (a.1 = b.1) && decide (a.2 < b.2))) from rfl)
 have hcs : a.1 < b.1 ∨ (¬ a.1 < b.1 ∧ ¬ a.1 = b.1) ∨ (¬ a.1 < b.1 ∧ a.1 = b.1 ∧ a.2 < b.2) ∨ (¬ a.1 < b.1 ∧ a.1 = b.1 ∧ ¬ a.2 < b.2) := by omega
 rcases hcs with h1 | ⟨h1, h2⟩ | ⟨h1, h2, h3⟩ | ⟨h1, h2, h3⟩
 ·have HK : Hid (lessB a b = true) := by unfold Hid; rw [HG.out, decide_eq_true h1]; rfl
  clear HG
  go_enter Tryz.func116, Tryz.ntmps116
  go_wp2
  go_ret
  rw [HK.out]
  exact ⟨rfl, by go_grown⟩
 ·have HK : Hid (lessB a b = false) := by unfold Hid; rw [HG.out, decide_eq_false h1, decide_eq_false h2]; rfl
  have e2 : (a.1 == b.1) = false := by simpa using h2
  clear HG h2
  go_enter Tryz.func116, Tryz.ntmps116
  go_wp2
  go_ret
  rw [HK.out]
  exact ⟨rfl, by go_grown⟩
 ·have HK : Hid (lessB a b = true) := by unfold Hid; rw [HG.out, decide_eq_true h2, decide_eq_true h3, decide_eq_false h1]; rfl
  have e2 : (a.1 == b.1) = true := by simpa using h2
  clear HG h2
  go_enter Tryz.func116, Tryz.ntmps116
  go_wp2
  go_ret
  rw [HK.out]
  exact ⟨rfl, by go_grown⟩
 ·have HK : Hid (lessB a b = false) := by unfold Hid; rw [HG.out, decide_eq_false h1, decide_eq_false h3, Bool.and_false]; rfl
  have e2 : (a.1 == b.1) = true := by simpa using h2
  clear HG h2
  go_enter Tryz.func116, Tryz.ntmps116
  go_wp2
  go_ret
  rw [HK.out]
  exact ⟨rfl, by go_grown⟩

theorem take_same {ps qs : List (Int × Int)} {k : Nat} (h1 : k < ps.length) (h2 : k < qs.length) (h : ps.take k = qs.take k) : ps.take (k + 1) = qs.take (k + 1) ↔ ps[k] = qs[k] := by
 rw [List.take_succ_eq_append_getElem h1, List.take_succ_eq_append_getElem h2, h]
 constructor
 ·intro e; exact List.head_eq_of_cons_eq (List.append_cancel_left e)
 ·intro e; rw [e]
theorem same_end {ps qs : List (Int × Int)} {k : Nat} (hk : ¬ k < ps.length ∨ ¬ k < qs.length) (h1 : k ≤ ps.length) (h2 : k ≤ qs.length) (h : ps.take k = qs.take k) : decide (ps = qs) = ((ps.length : Int) == (qs.length : Int)) := by
 rw [Bool.eq_iff_iff, decide_eq_true_iff, beq_iff_eq]
 constructor
 ·rintro rfl; rfl
 ·intro e
  have e1 : k = ps.length := by omega
  have e2 : k = qs.length := by omega
  rw [e1, List.take_length, ← e1, e2, List.take_length] at h
  exact h

set_option maxRecDepth 100000 in
set_option maxHeartbeats 2000000 in
theorem ref_same (ps qs : List (Int × Int)) (A B : Option Addr) (ca cb : Nat) (hn : ps.length ≤ maxLen) (w : World) (hr : Pts w w.heap.size A ps) (hr' : Pts w w.heap.size B qs) :
  Calls Tryz.prog 22 #[.slice A ps.length ca, .slice B qs.length cb] w fun e w' => e = .returned (.bool (decide (ps = qs))) ∧ Below w.heap.size w w' := by
 unfold maxLen at hn
 have HB0 := Hold.refl w
 go_enter Tryz.func22, Tryz.ntmps22
 go_wp2_with fail
 go_loopg [5] ps.length (fun g i wr => ∃ k : Nat, k ≤ ps.length ∧ k ≤ qs.length ∧ g = ps.length - k ∧ i = .int .i64 k ∧ ps.take k = qs.take k ∧ Hold w [] wr)
 case atStart => exact ⟨0, Nat.zero_le _, Nat.zero_le _, rfl, rfl, rfl, HB0⟩
 case round =>
  clear HB0
  obtain ⟨k, hk, hk', hgk, rfl, htk, HB⟩ := hrel
  have HGK := Lib.hid hgk
  have HTK := Lib.hid htk
  clear hgk htk
  have b0 : (0 : Int) ≤ (k : Int) := by omega
  by_cases h1 : k < ps.length
  ·by_cases h2 : k < qs.length
   ·obtain ⟨ad, rfl, -, d0, d1⟩ := hr.at HB.1 h1
    obtain ⟨ae, rfl, -, d2, d3⟩ := hr'.at HB.1 h2
    have b1 : (k : Int) < (ps.length : Int) := by omega
    have b2 : (k : Int) < (qs.length : Int) := by omega
    have HS := Lib.hid (take_same h1 h2 HTK.out)
    have HNE : Hid (ps[k] ≠ qs[k] → decide (ps = qs) = false) := fun h => decide_eq_false fun e => h (by simp only [e])
    clear hr hr'
    generalize ps[k] = a at *
    generalize qs[k] = b at *
    have hcs : (a.1 = b.1 ∧ a.2 = b.2) ∨ (a.1 = b.1 ∧ ¬ a.2 = b.2) ∨ ¬ a.1 = b.1 := by omega
    rcases hcs with ⟨h3, h4⟩ | ⟨h3, h4⟩ | h3
    ·have HT := Lib.hid (HS.out.2 (Prod.ext h3 h4))
     have e1 : (a.1 == b.1) = true := by simpa using h3
     have e2 : (a.2 == b.2) = true := by simpa using h4
     clear h3 h4 HS HNE HTK
     go_upto_region 4 with (fail)
     go_quiet (fail)
     have HK := Lib.hid (HB.drewN nq)
     clear HB
     go_wp2
     go_roundg (ps.length - (k + 1))
     case measure => have := HGK.out; omega
     case rel => exact ⟨k + 1, by omega, by omega, rfl, by go_num, HT.out, HK.out⟩
    ·have HT := Lib.hid (HNE.out (fun e => h4 (congrArg Prod.snd e)))
     have e1 : (a.1 == b.1) = true := by simpa using h3
     have e2 : (a.2 == b.2) = false := by simpa using h4
     clear h3 h4 HS HNE HTK
     go_upto_region 4 with (fail)
     go_quiet (fail)
     have HK := Lib.hid (HB.drewN nq).1
     clear HB
     go_wp2
     go_ret
     rw [HT.out]
     exact ⟨rfl, HK.out⟩
    ·have HT := Lib.hid (HNE.out (fun e => h3 (congrArg Prod.fst e)))
     have e1 : (a.1 == b.1) = false := by simpa using h3
     clear h3 HS HNE HTK
     go_upto_region 4 with (fail)
     go_quiet (fail)
     have HK := Lib.hid (HB.drewN nq).1
     clear HB
     go_wp2
     go_ret
     rw [HT.out]
     exact ⟨rfl, HK.out⟩
   ·have HE := Lib.hid (same_end (.inr h2) hk hk' HTK.out)
    have HK := Lib.hid HB.1
    clear HTK HB hr hr'
    go_wp2
    go_ret
    rw [HE.out]
    exact ⟨rfl, HK.out⟩
  ·have HE := Lib.hid (same_end (.inl h1) hk hk' HTK.out)
   have HK := Lib.hid HB.1
   clear HTK HB hr hr'
   go_wp2
   go_ret
   rw [HE.out]
   exact ⟨rfl, HK.out⟩

def leastI (ps : List (Int × Int)) : Nat → Nat
 |0 => 0
 |i + 1 => if lessB (nx ps i) (nx ps (leastI ps i)) then i else leastI ps i
theorem leastI_le (ps : List (Int × Int)) : ∀ i, leastI ps i ≤ i
 |0 => Nat.le_refl _
 |i + 1 => by
  have := leastI_le ps i
  rw [leastI]
  split <;> omega
def rotL (ps : List (Int × Int)) (k : Nat) : List (Int × Int) := (List.range ps.length).map fun i => nx ps (k + i)
theorem rotL_length (ps : List (Int × Int)) (k : Nat) : (rotL ps k).length = ps.length := by unfold rotL; simp
theorem rotL_get (ps : List (Int × Int)) (k i : Nat) (hi : i < ps.length) : (rotL ps k)[i]? = some (nx ps (k + i)) := by
 unfold rotL; rw [List.getElem?_map, List.getElem?_range hi]; rfl
theorem rotL_take {ps : List (Int × Int)} {k i : Nat} (hi : i < ps.length) : (rotL ps k).take (i + 1) = (rotL ps k).take i ++ [nx ps (k + i)] := by
 rw [List.take_add_one, rotL_get ps k i hi]
 rfl
theorem any_place {x n : Nat} (hn : 0 < n) (y z : Nat) (hx : x = y + z) : ∃ j : Nat, j < n ∧ x % n = j ∧ ((y : Int) + (z : Int)) % (n : Int) = (j : Int) ∧ ((y : Int) + (z : Int)).tmod (n : Int) = (j : Int) := by
 subst hx
 refine ⟨(y + z) % n, Nat.mod_lt _ hn, rfl, ?_, ?_⟩
 ·rw [Int.natCast_emod]; rfl
 ·rw [Int.tmod_eq_emod_of_nonneg (by omega), Int.natCast_emod]; rfl
section
variable {w W : World} {L : List (Nat × Array Value × TypeId)} {q0 q1 : Addr} {a b : Int × Int}
theorem Hold.fp2 (h : Hold w L W) (f0 : FP w q0 a) (f1 : FP w q1 b) : W.cell? q0 = some (.int .i64 a.1) ∧ W.cell? ⟨q0.block, q0.off + 1, none⟩ = some (.int .i64 a.2) ∧ W.cell? q1 = some (.int .i64 b.1) ∧ W.cell? ⟨q1.block, q1.off + 1, none⟩ = some (.int .i64 b.2) :=
 ⟨(h.fp f0).1, (h.fp f0).2, (h.fp f1).1, (h.fp f1).2⟩
end

set_option maxRecDepth 100000 in
set_option maxHeartbeats 2000000 in
theorem ref_least (ps : List (Int × Int)) (A : Option Addr) (cap : Nat) (hn : ps.length ≤ 1000000000) (w : World) (hr : Pts w w.heap.size A ps) :
  Calls Tryz.prog 73 #[.slice A ps.length cap] w fun e w' => ∃ v, e = .returned v ∧ Row w v (rotL ps (leastI ps ps.length)) w' := by
 have HB0 := Hold.refl w
 have HR := Lib.hid hr
 clear hr
 go_enter Tryz.func73, Tryz.ntmps73
 go_wp2_with fail
 go_loopg [3, 4] ps.length (fun g l i wr => ∃ k : Nat, k ≤ ps.length ∧ g = ps.length - k ∧ i = .int .i64 k ∧ l = .int .i64 (leastI ps k) ∧ Hold w [] wr)
 case atStart => exact ⟨0, Nat.zero_le _, rfl, rfl, rfl, HB0⟩
 case round =>
  clear HB0
  obtain ⟨k, hk, hgk, rfl, rfl, HB⟩ := hrel
  have HGK := Lib.hid hgk
  clear hgk
  by_cases hlt : k < ps.length
  ·have hll := leastI_le ps k
   obtain ⟨ad, hA, F0⟩ := HR.out.fp hlt (Nat.mod_eq_of_lt hlt)
   obtain ⟨ad', e', F1⟩ := HR.out.fp (show leastI ps k < ps.length by omega) (Nat.mod_eq_of_lt (show leastI ps k < ps.length by omega))
   obtain rfl := Option.some.inj (hA.symm.trans e')
   have HST := Lib.hid (show leastI ps (k + 1) = if lessB (nx ps k) (nx ps (leastI ps k)) then k else leastI ps k from rfl)
   have HF0 := Lib.hid F0
   have HF1 := Lib.hid F1
   subst hA
   have b0 : (0 : Int) ≤ (k : Int) := by omega
   have b1 : (k : Int) < (ps.length : Int) := by omega
   have b2 : (0 : Int) ≤ (leastI ps k : Int) := by omega
   have b3 : (leastI ps k : Int) < (ps.length : Int) := by omega
   clear F0 F1 e' hll
   generalize leastI ps k = l at *
   generalize nx ps k = a at *
   generalize nx ps l = b at *
   go_upto_region 5 with (fail)
   go_cut [21] (fun s21 wx => s21 = .bool (lessB a b) ∧ Hold w [] wx)
   case first =>
    go_region_held3 (fun W => W.cell? (ad.add (k * 2)) = some (.int .i64 a.1) ∧ W.cell? ⟨(ad.add (k * 2)).block, (ad.add (k * 2)).off + 1, none⟩ = some (.int .i64 a.2) ∧ W.cell? (ad.add (l * 2)) = some (.int .i64 b.1) ∧ W.cell? ⟨(ad.add (l * 2)).block, (ad.add (l * 2)).off + 1, none⟩ = some (.int .i64 b.2)) (first | exact Hold.fp2 (L := []) (by assumption) HF0.out HF1.out | exact Hold.fp2 (L := []) (Hold.drew (by assumption)) HF0.out HF1.out) ((go_at_call 116; (with_reducible refine (ref_less a b _).mono ?_); rintro e w' ⟨rfl, hB⟩; have HS' := Hold.on (L := []) (by first | assumption | exact Hold.drew (by assumption)) hB))
    go_wp2_with fail
    go_meet
    exact ⟨rfl, HS'⟩
   case rest =>
    clear HB HF0 HF1
    obtain ⟨rfl, HB⟩ := hcut
    have HK := Lib.hid HB
    clear HB
    cases h : lessB a b
    ·have HE : Hid (leastI ps (k + 1) = l) := by unfold Hid; rw [HST.out, h]; rfl
     clear HST
     go_wp2
     go_roundg (ps.length - (k + 1))
     case measure => have := HGK.out; omega
     case rel => exact ⟨k + 1, by omega, rfl, by go_num, by rw [HE.out], HK.out⟩
    ·have HE : Hid (leastI ps (k + 1) = k) := by unfold Hid; rw [HST.out, h]; rfl
     clear HST
     go_wp2
     go_roundg (ps.length - (k + 1))
     case measure => have := HGK.out; omega
     case rel => exact ⟨k + 1, by omega, rfl, by go_num, by rw [HE.out], HK.out⟩
  ·obtain rfl : k = ps.length := by omega
   have hll := leastI_le ps ps.length
   have HLL := Lib.hid hll
   clear hll
   generalize hl : leastI ps ps.length = l at *
   have HL := Lib.hid hl
   clear hl
   have HR0 : Row w (.slice none 0 0) [] _ := Row.nil HB.1
   clear HB
   go_wp2_with fail
   go_loopg [5, 6] ps.length (fun g v i wr => ∃ m : Nat, m ≤ ps.length ∧ g = ps.length - m ∧ i = .int .i64 m ∧ Row w v ((rotL ps l).take m) wr)
   case atStart => exact ⟨0, Nat.zero_le _, rfl, rfl, by rw [List.take_zero]; exact HR0⟩
   case round =>
    clear HR0
    obtain ⟨m, hm, hgm, rfl, HV⟩ := hrel
    have HGM := Lib.hid hgm
    clear hgm
    by_cases hltm : m < ps.length
    ·obtain ⟨j, hj, e1, e2, e3⟩ := any_place (show 0 < ps.length by omega) l m rfl
     obtain ⟨ad, rfl, -, d0, d1⟩ := HR.out.nx HV.1 hj e1
     have HT := Lib.hid (rotL_take (k := l) hltm)
     have hlen : ((rotL ps l).take m).length ≤ 1000000000 := by
      have := List.length_take_le m (rotL ps l)
      omega
     have HLN := Lib.hid hlen
     have b0 : (0 : Int) ≤ (m : Int) := by omega
     have b1 : (m : Int) < (ps.length : Int) := by omega
     have b4 : (0 : Int) ≤ (j : Int) := by omega
     have b5 : (j : Int) < (ps.length : Int) := by omega
     have b6 : (0 : Int) ≤ (l : Int) := by omega
     have b7 : (l : Int) ≤ 1000000000 := by have := HLL.out; omega
     have b8 : (m : Int) ≤ 1000000000 := by omega
     clear e1 hlen
     generalize nx ps (l + m) = p at *
     generalize (rotL ps l).take m = qs at *
     go_wp2_with (at_builtin; refine append_pt _ Tryz.underlying23 HV HLN.out p _ rfl _ _ rfl rfl _ rfl ?_; rintro v' w2 HR2)
     go_roundg (ps.length - (m + 1))
     case measure => have := HGM.out; omega
     case rel => exact ⟨m + 1, by omega, rfl, by go_num, by rw [HT.out]; exact HR2⟩
    ·obtain rfl : m = ps.length := by omega
     have e : (rotL ps l).take ps.length = rotL ps l := by
      rw [List.take_of_length_le (by rw [rotL_length]; omega)]
     rw [e] at HV
     have HK := Lib.hid HV
     clear HV e
     go_wp2
     go_ret
     exact ⟨_, rfl, by rw [HL.out]; exact HK.out⟩
end Go.Proofs.YtjlnjjmomohpaaaGreat

namespace Go.Proofs.YtjlnjjmomohpaaaGreat
open Go.RowKit

def idB (n : Int) : Bool := decide (1 ≤ n) && decide (n ≤ 1073741824)
set_option maxHeartbeats 400000 in
theorem ref_id (n : Int) (w : World) : Calls Tryz.prog 70 #[.int .i64 n] w fun e w' => e = .returned (.bool (idB n)) ∧ Below w.heap.size w w' := by
 by_cases h1 : 1 ≤ n
 ·by_cases h2 : n ≤ 1073741824
  ·have HG : Hid (idB n = true) := by unfold Hid idB; simp [h1, h2]
   go_enter Tryz.func70, Tryz.ntmps70
   go_wp2
   go_ret
   rw [HG.out]
   exact ⟨rfl, Below.refl _ _⟩
  ·have HG : Hid (idB n = false) := by unfold Hid idB; simp [h2]
   go_enter Tryz.func70, Tryz.ntmps70
   go_wp2
   go_ret
   rw [HG.out]
   exact ⟨rfl, Below.refl _ _⟩
 ·have HG : Hid (idB n = false) := by unfold Hid idB; simp [h1]
  go_enter Tryz.func70, Tryz.ntmps70
  go_wp2
  go_ret
  rw [HG.out]
  exact ⟨rfl, Below.refl _ _⟩

theorem edg_take {r : List (Int × Int)} {k : Nat} (hk : k < r.length) : (edg r).take (k + 1) = (edg r).take k ++ [(nx r k, nx r (k + 1))] := by
 have h : k < (edg r).length := by unfold edg; rw [List.length_map, List.length_range]; exact hk
 have e : (edg r)[k] = (nx r k, nx r (k + 1)) := by simp [edg]
 rw [List.take_succ_eq_append_getElem h, e]
theorem edg_len (r : List (Int × Int)) : (edg r).length = r.length := by unfold edg; rw [List.length_map, List.length_range]

set_option maxRecDepth 100000 in
set_option maxHeartbeats 2000000 in
theorem ref_edges (ps : List (Int × Int)) (A : Option Addr) (cap : Nat) (hn : ps.length ≤ 1000000) (w : World) (hr : Pts w w.heap.size A ps) :
  Calls Tryz.prog 36 #[.slice A ps.length cap] w fun e w' => ∃ v, e = .returned v ∧ RowI w 76 4 encG v (edg ps) w' := by
 have HR := Lib.hid hr
 have HR0 : RowI w 76 4 encG (.slice none 0 0) [] w := RowI.nil (Below.refl _ _)
 clear hr
 go_enter Tryz.func36, Tryz.ntmps36
 go_wp2_with fail
 go_loopg [3, 4] ps.length (fun g v i wr => ∃ k : Nat, k ≤ ps.length ∧ g = ps.length - k ∧ i = .int .i64 k ∧ RowI w 76 4 encG v ((edg ps).take k) wr)
 case atStart => exact ⟨0, Nat.zero_le _, rfl, rfl, by rw [List.take_zero]; exact HR0⟩
 case round =>
  clear HR0
  obtain ⟨k, hk, hgk, rfl, HV⟩ := hrel
  have HGK := Lib.hid hgk
  clear hgk
  by_cases hlt : k < ps.length
  ·obtain ⟨jk, hjk, ek1, ek2, ek3⟩ := next_place hlt
   obtain ⟨ad, hA, F0⟩ := HR.out.fp hlt (Nat.mod_eq_of_lt hlt)
   obtain ⟨ad', e', F1⟩ := HR.out.fp hjk ek1
   obtain rfl := Option.some.inj (hA.symm.trans e')
   obtain rfl := hA
   have HT := Lib.hid (edg_take hlt)
   have hlen : ((edg ps).take k).length ≤ 1000000 := by have := List.length_take_le k (edg ps); omega
   have HLN := Lib.hid hlen
   have b0 : (0 : Int) ≤ (k : Int) := by omega
   have b1 : (k : Int) < (ps.length : Int) := by omega
   have b2 : (0 : Int) < (ps.length : Int) := by omega
   have b4 : (0 : Int) ≤ (jk : Int) := by omega
   have b5 : (jk : Int) < (ps.length : Int) := by omega
   have b6 : (ps.length : Int) ≤ 1000000 := by omega
   have HF0 := Lib.hid F0
   have HF1 := Lib.hid F1
   clear F0 F1 e' ek1 hlen
   generalize nx ps k = a at *
   generalize nx ps (k + 1) = b at *
   generalize (edg ps).take k = es at *
   go_upto_region 5 with (fail)
   have z1 : ((ps.length : Int) == 0) = false := by rw [beq_eq_false_iff_ne]; omega
   have z2 : ¬ (ps.length : Int) = 0 := by omega
   have z7 : ¬ ps.length = 0 := by omega
   have z8 : ¬ ps = [] := fun e => z7 (by rw [e]; rfl)
   have z3 := wrap_in (n := (k : Int) + 1) (by omega) (by omega)
   have z4 := wrap_in (n := (k : Int)) (by omega) (by omega)
   have z5 := wrap_in (n := (jk : Int)) (by omega) (by omega)
   have HK2 := Lib.hid (fun W (h : Below w.heap.size w W) => show W.cell? (ad.add (k * 2)) = some (.int .i64 a.1) ∧ W.cell? ⟨(ad.add (k * 2)).block, (ad.add (k * 2)).off + 1, none⟩ = some (.int .i64 a.2) ∧ W.cell? (ad.add (jk * 2)) = some (.int .i64 b.1) ∧ W.cell? ⟨(ad.add (jk * 2)).block, (ad.add (jk * 2)).off + 1, none⟩ = some (.int .i64 b.2) from by
    have hh : Hold w [] W := ⟨h, fun _ h => (by cases h), List.Pairwise.nil⟩
    exact ⟨(hh.fp HF0.out).1, (hh.fp HF0.out).2, (hh.fp HF1.out).1, (hh.fp HF1.out).2⟩)
   have HV1 := (HV.drew.alloc (Obj.cells #[.int .i64 (a, b).1.1, .int .i64 (a, b).1.2, .int .i64 (a, b).2.1, .int .i64 (a, b).2.2] 76 (0, 0)))
   go_region_held3 (fun W => W.cell? (ad.add (k * 2)) = some (.int .i64 a.1) ∧ W.cell? ⟨(ad.add (k * 2)).block, (ad.add (k * 2)).off + 1, none⟩ = some (.int .i64 a.2) ∧ W.cell? (ad.add (jk * 2)) = some (.int .i64 b.1) ∧ W.cell? ⟨(ad.add (jk * 2)).block, (ad.add (jk * 2)).off + 1, none⟩ = some (.int .i64 b.2)) (first | exact HK2.out _ HV.drew.1 | exact HK2.out _ (HV.alloc _).drew.1 | exact HK2.out _ HR9.1)
    ((refine step_append_items kindG Tryz.underlying71 (HV.alloc _).drew [(a, b)] (some ⟨wr.heap.size, 0, none⟩) 1 (items_one (heap_alloc_new wr _) rfl (by simp)) (fun e => by cases e) (by have := HLN.out; unfold maxLen; simp; omega) (by have := HLN.out; simp; omega) rfl _ _ rfl rfl rfl ?_; rintro v9 w9 HR9))
   go_wp2_with fail
   go_roundg (ps.length - (k + 1))
   case measure => have := HGK.out; omega
   case rel => exact ⟨k + 1, by omega, rfl, by go_num, by rw [HT.out]; exact HR9⟩
  ·obtain rfl : k = ps.length := by omega
   have e : (edg ps).take ps.length = edg ps := List.take_of_length_le (by rw [edg_len]; exact Nat.le_refl _)
   rw [e] at HV
   have HK := Lib.hid HV
   clear HV e
   go_wp2
   go_ret
   exact ⟨_, rfl, HK.out⟩

section
variable {w W : World} {g : Nat} {t : TypeId} {x0 x1 x2 x3 : Value} {L1 L2 : List (Nat × Array Value × TypeId)}
theorem Hold.set4 (h : Hold w (L1 ++ (g, #[x0, x1, x2, x3], t) :: L2) W) (y0 y1 y2 y3 : Value) : Hold w (L1 ++ (g, #[y0, y1, y2, y3], t) :: L2) ((((W.setCell ⟨g, 0, none⟩ y0).setCell ⟨g, 1, none⟩ y1).setCell ⟨g, 2, none⟩ y2).setCell ⟨g, 3, none⟩ y3) := by
 have h0 : Hold w (L1 ++ (g, #[y0, x1, x2, x3], t) :: L2) _ := Hold.put h 0 y0
 have h1 : Hold w (L1 ++ (g, #[y0, y1, x2, x3], t) :: L2) _ := Hold.put h0 1 y1
 have h2 : Hold w (L1 ++ (g, #[y0, y1, y2, x3], t) :: L2) _ := Hold.put h1 2 y2
 have h3 : Hold w (L1 ++ (g, #[y0, y1, y2, y3], t) :: L2) _ := Hold.put h2 3 y3
 exact h3
theorem Hold.q4 (h : Hold w L2 W) (hm : (g, #[x0, x1, x2, x3], t) ∈ L2) : W.cell? ⟨g, 0, none⟩ = some x0 ∧ W.cell? ⟨g, 1, none⟩ = some x1 ∧ W.cell? ⟨g, 2, none⟩ = some x2 ∧ W.cell? ⟨g, 3, none⟩ = some x3 := ⟨h.cell hm 0, h.cell hm 1, h.cell hm 2, h.cell hm 3⟩
theorem Hold.z4 (h : Hold w L2 W) (hm : (g, #[x0, x1, x2, x3], t) ∈ L2) : W.frozen? ⟨g, 0, none⟩ = false ∧ W.frozen? ⟨g, 1, none⟩ = false ∧ W.frozen? ⟨g, 2, none⟩ = false ∧ W.frozen? ⟨g, 3, none⟩ = false := ⟨h.frozen hm 0, h.frozen hm 1, h.frozen hm 2, h.frozen hm 3⟩
end
set_option maxRecDepth 100000 in
set_option maxHeartbeats 1000000 in
theorem ref_back (e : (Int × Int) × (Int × Int)) (w : World) : Calls Tryz.prog 38 #[.agg #[.int .i64 e.1.1, .int .i64 e.1.2, .int .i64 e.2.1, .int .i64 e.2.2]] w fun e' w' => e' = .returned (.agg #[.int .i64 (bk e).1.1, .int .i64 (bk e).1.2, .int .i64 (bk e).2.1, .int .i64 (bk e).2.2]) ∧ Below w.heap.size w w' := by
 have HQ := ((Hold.refl w).new #[.int .i64 e.1.1, .int .i64 e.1.2, .int .i64 e.2.1, .int .i64 e.2.2] 76).new' #[.int .i64 0, .int .i64 0, .int .i64 0, .int .i64 0] 76 (n := w.heap.size + 1) (by simp)
 go_enter Tryz.func38, Tryz.ntmps38
 go_upto_region 1 with (fail)
 generalize (World.alloc _ _) = W1 at HQ ⊢
 generalize w.heap.size + 1 = g1 at HQ ⊢
 obtain ⟨g0, hg0⟩ : ∃ g, w.heap.size = g := ⟨_, rfl⟩
 rw [hg0] at HQ ⊢
 have HG0 := Lib.hid hg0
 clear hg0
 obtain ⟨c0, c1, c2, c3⟩ := HQ.q4 (List.mem_cons_of_mem _ List.mem_cons_self)
 obtain ⟨k0, k1, k2, k3⟩ := HQ.q4 List.mem_cons_self
 obtain ⟨z0, z1, z2, z3⟩ := HQ.z4 List.mem_cons_self
 go_wp2
 have HE := Hold.set4 (L1 := []) HQ (.int .i64 e.2.1) (.int .i64 e.2.2) (.int .i64 e.1.1) (.int .i64 e.1.2)
 obtain ⟨n0, n1, n2, n3⟩ := HE.q4 List.mem_cons_self
 refine bodyPost_ret (v := .agg #[.int .i64 (bk e).1.1, .int .i64 (bk e).1.2, .int .i64 (bk e).2.1, .int .i64 (bk e).2.2]) ?_ rfl ⟨rfl, HE.1⟩
 simp [results, Tryz.results38, go_sem, n0, n1, n2, n3, bk]

def Plc {α : Type} (l : List α) (e : α) (n : Int) : Prop := (n = -1 ∧ e ∉ l) ∨ ∃ i : Nat, n = i ∧ l[i]? = some e ∧ ∀ j : Nat, j < i → l[j]? ≠ some e
theorem Plc.pos {α : Type} {l : List α} {e : α} {n : Int} (h : Plc l e n) : 0 ≤ n ↔ e ∈ l := by
 rcases h with ⟨rfl, h⟩ | ⟨i, rfl, h, -⟩
 ·exact ⟨fun h => by omega, fun h' => absurd h' h⟩
 ·exact ⟨fun _ => List.mem_of_getElem? h, fun _ => by omega⟩
theorem Plc.at {α : Type} {l : List α} {i : Nat} (hi : i < l.length) {n : Int} (h : Plc l l[i] n) : n = i ↔ ∀ j (hj : j < i), l[j] ≠ l[i] := by
 rcases h with ⟨rfl, h⟩ | ⟨k, rfl, h, hk⟩
 ·exact absurd (List.getElem_mem hi) h
 ·constructor
  ·intro e j hj hh
   have : k = i := by omega
   subst this
   exact hk j hj (by rw [List.getElem?_eq_getElem (by omega), hh])
  ·intro hh
   have hkl : k < l.length := by
    by_cases hkl : k < l.length
    ·exact hkl
    ·rw [List.getElem?_eq_none (by omega)] at h; cases h
   rw [List.getElem?_eq_getElem hkl] at h
   have h' := Option.some.inj h
   by_cases h1 : k < i
   ·exact absurd h' (hh k h1)
   ·by_cases h2 : i < k
    ·exact absurd (List.getElem?_eq_getElem hi) (hk i h2)
    ·omega
set_option maxRecDepth 100000 in
set_option maxHeartbeats 2000000 in
theorem ref_place (es : List ((Int × Int) × (Int × Int))) (A : Option Addr) (cap : Nat) (e : (Int × Int) × (Int × Int)) (hn : es.length ≤ 1000000) (w : World) (hr : Items w w.heap.size A encG es) :
  Calls Tryz.prog 37 #[.slice A es.length cap, .agg #[.int .i64 e.1.1, .int .i64 e.1.2, .int .i64 e.2.1, .int .i64 e.2.2]] w fun e' w' => ∃ n, e' = .returned (.int .i64 n) ∧ Plc es e n ∧ Below w.heap.size w w' := by
 have HR := Lib.hid (fun K W (h : Hold w K W) => hr.on h.1)
 have HQ := (Hold.refl w).new #[.int .i64 e.1.1, .int .i64 e.1.2, .int .i64 e.2.1, .int .i64 e.2.2] 76
 clear hr
 go_enter Tryz.func37, Tryz.ntmps37
 go_upto_region 1 with (fail)
 generalize (World.alloc _ _) = W1 at HQ ⊢
 obtain ⟨g0, hg0⟩ : ∃ g, w.heap.size = g := ⟨_, rfl⟩
 rw [hg0] at HQ ⊢
 have HG0 := Lib.hid hg0
 clear hg0
 go_wp2_with fail
 go_loopg [5] es.length (fun g i wr => ∃ k : Nat, k ≤ es.length ∧ g = es.length - k ∧ i = .int .i64 k ∧ (∀ j : Nat, j < k → es[j]? ≠ some e) ∧ Hold w [(g0, #[.int .i64 e.1.1, .int .i64 e.1.2, .int .i64 e.2.1, .int .i64 e.2.2], 76)] wr)
 case atStart => exact ⟨0, Nat.zero_le _, rfl, rfl, fun j hj => absurd hj (by omega), HQ⟩
 case round =>
  clear HQ
  obtain ⟨k, hk, hgk, rfl, hno, HB⟩ := hrel
  have HGK := Lib.hid hgk
  have HNO := Lib.hid hno
  clear hgk hno
  by_cases hlt : k < es.length
  ·obtain ⟨ad, rfl, -, hc0, hc⟩ := Items.at kindG.len (HR.out _ _ HB) hlt
   have d0 := hc0 _ (by decide) rfl
   have d1 := hc 1 _ (by decide) (by decide) rfl
   have d2 := hc 2 _ (by decide) (by decide) rfl
   have d3 := hc 3 _ (by decide) (by decide) rfl
   obtain ⟨c0, c1, c2, c3⟩ := HB.q4 List.mem_cons_self
   have HAT : Hid (es[k]? = some es[k]) := List.getElem?_eq_getElem hlt
   have b0 : (0 : Int) ≤ (k : Int) := by omega
   have b1 : (k : Int) < (es.length : Int) := by omega
   have HGN : Hid (es[k] ≠ e → ∀ j : Nat, j < k + 1 → es[j]? ≠ some e) := fun h j hj hh => by
    by_cases ej : j = k
    ·subst ej; rw [HAT.out] at hh; exact h (Option.some.inj hh)
    ·exact HNO.out j (by omega) hh
   clear hc0 hc HR
   generalize es[k] = x at *
   have hw : (x.1.1 = e.1.1 ∧ x.1.2 = e.1.2 ∧ x.2.1 = e.2.1 ∧ x.2.2 = e.2.2) ∨ ¬ x.1.1 = e.1.1 ∨ (x.1.1 = e.1.1 ∧ ¬ x.1.2 = e.1.2) ∨ (x.1.1 = e.1.1 ∧ x.1.2 = e.1.2 ∧ ¬ x.2.1 = e.2.1) ∨ (x.1.1 = e.1.1 ∧ x.1.2 = e.1.2 ∧ x.2.1 = e.2.1 ∧ ¬ x.2.2 = e.2.2) := by omega
   go_upto_region 4 with (fail)
   rcases hw with ⟨h1, h2, h3, h4⟩ | h1 | ⟨h1, h2⟩ | ⟨h1, h2, h3⟩ | ⟨h1, h2, h3, h4⟩
   ·have HP : Hid (Plc es e k) := .inr ⟨k, rfl, by rw [HAT.out]; exact congrArg some (Prod.ext (Prod.ext h1 h2) (Prod.ext h3 h4)), HNO.out⟩
    have e1 : (x.1.1 == e.1.1) = true := by simpa using h1
    have e2 : (x.1.2 == e.1.2) = true := by simpa using h2
    have e3 : (x.2.1 == e.2.1) = true := by simpa using h3
    have e4 : (x.2.2 == e.2.2) = true := by simpa using h4
    clear h1 h2 h3 h4 HGN HAT HNO HGK
    go_quiet (fail)
    have HK := Lib.hid (HB.drewN nq).1
    clear HB
    go_wp2
    go_ret
    exact ⟨_, rfl, HP.out, HK.out⟩
   ·have HN := Lib.hid (HGN.out fun h => h1 (by rw [h]))
    have e1 : (x.1.1 == e.1.1) = false := by simpa using h1
    clear h1 HGN HAT HNO
    go_quiet (fail)
    have HK := Lib.hid (HB.drewN nq)
    clear HB
    go_wp2
    go_roundg (es.length - (k + 1))
    case measure => have := HGK.out; omega
    case rel => exact ⟨k + 1, by omega, rfl, by go_num, HN.out, HK.out⟩
   ·have HN := Lib.hid (HGN.out fun h => h2 (by rw [h]))
    have e1 : (x.1.1 == e.1.1) = true := by simpa using h1
    have e2 : (x.1.2 == e.1.2) = false := by simpa using h2
    clear h1 h2 HGN HAT HNO
    go_quiet (fail)
    have HK := Lib.hid (HB.drewN nq)
    clear HB
    go_wp2
    go_roundg (es.length - (k + 1))
    case measure => have := HGK.out; omega
    case rel => exact ⟨k + 1, by omega, rfl, by go_num, HN.out, HK.out⟩
   ·have HN := Lib.hid (HGN.out fun h => h3 (by rw [h]))
    have e1 : (x.1.1 == e.1.1) = true := by simpa using h1
    have e2 : (x.1.2 == e.1.2) = true := by simpa using h2
    have e3 : (x.2.1 == e.2.1) = false := by simpa using h3
    clear h1 h2 h3 HGN HAT HNO
    go_quiet (fail)
    have HK := Lib.hid (HB.drewN nq)
    clear HB
    go_wp2
    go_roundg (es.length - (k + 1))
    case measure => have := HGK.out; omega
    case rel => exact ⟨k + 1, by omega, rfl, by go_num, HN.out, HK.out⟩
   ·have HN := Lib.hid (HGN.out fun h => h4 (by rw [h]))
    have e1 : (x.1.1 == e.1.1) = true := by simpa using h1
    have e2 : (x.1.2 == e.1.2) = true := by simpa using h2
    have e3 : (x.2.1 == e.2.1) = true := by simpa using h3
    have e4 : (x.2.2 == e.2.2) = false := by simpa using h4
    clear h1 h2 h3 h4 HGN HAT HNO
    go_quiet (fail)
    have HK := Lib.hid (HB.drewN nq)
    clear HB
    go_wp2
    go_roundg (es.length - (k + 1))
    case measure => have := HGK.out; omega
    case rel => exact ⟨k + 1, by omega, rfl, by go_num, HN.out, HK.out⟩
  ·obtain rfl : k = es.length := by omega
   have HP : Hid (Plc es e (-1)) := .inl ⟨rfl, fun h => by
    obtain ⟨i, hi, rfl⟩ := List.getElem_of_mem h
    exact HNO.out i hi (List.getElem?_eq_getElem hi)⟩
   have HK := Lib.hid HB.1
   clear HB HNO HR
   go_wp2
   go_ret
   exact ⟨_, rfl, HP.out, HK.out⟩
end Go.Proofs.YtjlnjjmomohpaaaGreat

namespace Go.Proofs.YtjlnjjmomohpaaaGreat
open Go.RowKit

structure Par where
 id : Int
 ring : List (Int × Int)
 own : ByteArray
structure PV where
 par : Par
 A : Option Addr
 cap : Nat
def encV (x : PV) : List Value := [.int .i64 x.par.id, .slice x.A x.par.ring.length x.cap, .string x.par.own]
theorem kindV : Kind 58 encV 3 48 := Kind.mk' (z := .agg #[.int .i64 0, .slice none 0 0, .string ⟨#[]⟩]) (fun _ => rfl) (fun a u hu => by
 simp only [encV, List.mem_cons, List.not_mem_nil, or_false] at hu
 rcases hu with rfl | rfl | rfl <;> rfl) (by decide) (by kernel_rfl) rfl
def Prs (w : World) (A : Option Addr) (l : List PV) : Prop := Items w w.heap.size A encV l ∧ ∀ x ∈ l, Pts w w.heap.size x.A x.par.ring ∧ NilOk x.A x.cap ∧ x.par.ring.length * 16 ≤ 140737488355328
section
variable {w w' : World} {A : Option Addr} {l : List PV}
theorem Prs.on (h : Prs w A l) (hb : Below w.heap.size w w') : Prs w' A l := ⟨h.1.on hb, fun x hx => ⟨(h.2 x hx).1.on hb, (h.2 x hx).2⟩⟩
theorem Prs.drew (h : Prs w A l) : Prs w.drew A l := h.on ⟨rfl, rfl, rfl, Nat.le_refl _, fun _ _ => rfl⟩
theorem Prs.at (h : Prs w A l) {k : Nat} (hlt : k < l.length) : ∃ ad, A = some ad ∧ ad.block < w.heap.size ∧ w.cell? (ad.add (k * 3)) = some (.int .i64 l[k].par.id) ∧ w.cell? ⟨(ad.add (k * 3)).block, (ad.add (k * 3)).off + 1, none⟩ = some (.slice l[k].A l[k].par.ring.length l[k].cap) ∧ w.cell? ⟨(ad.add (k * 3)).block, (ad.add (k * 3)).off + 2, none⟩ = some (.string l[k].par.own) := by
 obtain ⟨ad, e, hb, h0, hc⟩ := h.1.at (kindV : Kind 58 encV 3 48).len hlt
 exact ⟨ad, e, hb, h0 _ (by decide) rfl, hc 1 _ (by decide) (by decide) rfl, hc 2 _ (by decide) (by decide) rfl⟩
end
def rings (l : List PV) : List (List (Int × Int)) := l.map fun x => x.par.ring
theorem edgs_take {l : List PV} {k : Nat} (hk : k < l.length) : edgs (rings (l.take (k + 1))) = edgs (rings (l.take k)) ++ edg l[k].par.ring := by
 rw [List.take_succ_eq_append_getElem hk]
 unfold rings edgs
 rw [List.map_append, List.flatMap_append]
 simp only [List.map_cons, List.map_nil, List.flatMap_cons, List.flatMap_nil, List.append_nil]
theorem edgs_le (l : List PV) (k : Nat) : (edgs (rings (l.take k))).length ≤ (edgs (rings l)).length := by
 have : edgs (rings l) = edgs (rings (l.take k)) ++ edgs (rings (l.drop k)) := by
  conv => lhs; rw [← List.take_append_drop k l]
  unfold rings edgs
  rw [List.map_append, List.flatMap_append]
 rw [this, List.length_append]; omega
theorem edg_le_edgs {l : List PV} {k : Nat} (hk : k < l.length) : (edgs (rings (l.take k))).length + (edg l[k].par.ring).length ≤ (edgs (rings l)).length := by
 have := edgs_le l (k + 1)
 rw [edgs_take hk, List.length_append] at this
 exact this
set_option maxRecDepth 100000 in
set_option maxHeartbeats 2000000 in
theorem ref_all (l : List PV) (A : Option Addr) (cap : Nat) (hn : (edgs (rings l)).length ≤ 1000000) (hl : l.length ≤ 1000000) (w : World) (hr : Prs w A l) :
  Calls Tryz.prog 35 #[.slice A l.length cap] w fun e w' => ∃ v, e = .returned v ∧ RowI w 76 4 encG v (edgs (rings l)) w' := by
 have HR := Lib.hid hr
 have HN := Lib.hid hn
 have HR0 : RowI w 76 4 encG (.slice none 0 0) [] w := RowI.nil (Below.refl _ _)
 clear hr hn
 go_enter Tryz.func35, Tryz.ntmps35
 go_wp2_with fail
 go_loopg [3, 4] l.length (fun g v i wr => ∃ k : Nat, k ≤ l.length ∧ g = l.length - k ∧ i = .int .i64 k ∧ RowI w 76 4 encG v (edgs (rings (l.take k))) wr)
 case atStart => exact ⟨0, Nat.zero_le _, rfl, rfl, by rw [List.take_zero]; exact HR0⟩
 case round =>
  clear HR0
  obtain ⟨k, hk, hgk, rfl, HV⟩ := hrel
  have HGK := Lib.hid hgk
  clear hgk
  by_cases hlt : k < l.length
  ·have hw := HR.out.on HV.1
   obtain ⟨ad, rfl, -, d0, d1, d2⟩ := hw.at hlt
   obtain ⟨hp, hnil, hsz⟩ := hw.2 l[k] (List.getElem_mem hlt)
   have hle := edg_le_edgs hlt
   have hN := HN.out
   rw [edg_len] at hle
   have HE := Lib.hid (ref_edges l[k].par.ring l[k].A l[k].cap (by omega) wr hp)
   have HT := Lib.hid (edgs_take hlt)
   have HLE : Hid ((edgs (rings (l.take k))).length + (edg l[k].par.ring).length ≤ 1000000) := by unfold Hid; rw [edg_len]; omega
   have b0 : (0 : Int) ≤ (k : Int) := by omega
   have b1 : (k : Int) < (l.length : Int) := by omega
   clear hw hp hnil hsz hle hN d0 d2
   generalize edgs (rings (l.take k)) = es at *
   generalize l[k].par.ring = ps at *
   generalize l[k].A = Ak at *
   generalize l[k].cap = ck at *
   go_wp2_with fail
   go_at_call 36
   refine HE.out.mono ?_
   rintro e w1 ⟨v, rfl, HV1⟩
   obtain ⟨A1, c1, rfl, HI, HNO⟩ := HV1.items
   have HV2 := HV.on HV1.1
   have HI2 := Lib.hid HI
   have HNO2 := Lib.hid HNO
   clear HI HNO HV1 d1 HE
   go_wp2_with (at_builtin; refine append_items kindG Tryz.underlying71 HV2 (edg ps) A1 c1 HI2.out HNO2.out (by have := HLE.out; unfold maxLen; omega) (by have := HLE.out; omega) rfl _ _ rfl rfl rfl ?_; rintro v9 w9 HR9)
   go_roundg (l.length - (k + 1))
   case measure => have := HGK.out; omega
   case rel => exact ⟨k + 1, by omega, rfl, by go_num, by rw [HT.out]; exact HR9⟩
  ·obtain rfl : k = l.length := by omega
   rw [List.take_length] at HV
   have HK := Lib.hid HV
   clear HV
   go_wp2
   go_ret
   exact ⟨_, rfl, HK.out⟩

def OwnOk (s : ByteArray) : Prop := (∀ j (hj : j < s.size), 32 ≤ s[j].toNat ∧ s[j].toNat ≤ 126) ∧ s.size ≤ 32
noncomputable def owB (s : ByteArray) : Bool := @decide (OwnOk s) (Classical.propDecidable _)
theorem owB_iff {s : ByteArray} : owB s = true ↔ OwnOk s := by unfold owB; exact @decide_eq_true_iff _ (Classical.propDecidable _)
theorem owB_not {s : ByteArray} : owB s = false ↔ ¬ OwnOk s := by rw [← owB_iff, Bool.not_eq_true]
set_option maxRecDepth 100000 in
set_option maxHeartbeats 2000000 in
theorem ref_owner (s : ByteArray) (hs : s.size ≤ maxLen) (w : World) : Calls Tryz.prog 71 #[.string s] w fun e w' => e = .returned (.bool (owB s)) ∧ Below w.heap.size w w' := by
 have HS : Hid (s.size ≤ 9223372036854775807) := by unfold Hid; unfold maxLen at hs; omega
 clear hs
 go_enter Tryz.func71, Tryz.ntmps71
 go_wp2_with fail
 go_loopg [3] s.size (fun g i wr => ∃ k : Nat, k ≤ s.size ∧ g = s.size - k ∧ i = .int .i64 k ∧ (∀ j (hj : j < s.size), j < k → 32 ≤ s[j].toNat ∧ s[j].toNat ≤ 126) ∧ w = wr)
 case atStart => exact ⟨0, Nat.zero_le _, rfl, rfl, fun j _ hj => absurd hj (by omega), rfl⟩
 case round =>
  obtain ⟨k, hk, hgk, rfl, hno, rfl⟩ := hrel
  have HGK := Lib.hid hgk
  have HNO := Lib.hid hno
  clear hgk hno
  by_cases hlt : k < s.size
  ·have b0 : (0 : Int) ≤ (k : Int) := by omega
   have b1 : (k : Int) < (s.size : Int) := by omega
   have hws : IntKind.i64.wrap ((k : Int) + 1) = (k : Int) + 1 := by have := HS.out; rw [IntKind.wrap_i64]; omega
   by_cases h1 : s[k].toNat < 32
   ·have HE : Hid (owB s = false) := owB_not.2 fun h => by have := (h.1 k hlt).1; omega
    have h1' : (s[k].toNat : Int) < 32 := by omega
    clear HNO HGK
    go_wp2
    go_ret
    rw [HE.out]
    exact ⟨rfl, Below.refl _ _⟩
   ·have h1' : ¬ (s[k].toNat : Int) < 32 := by omega
    by_cases h2 : 126 < s[k].toNat
    ·have HE : Hid (owB s = false) := owB_not.2 fun h => by have := (h.1 k hlt).2; omega
     have h2' : (126 : Int) < (s[k].toNat : Int) := by omega
     clear HNO HGK
     go_wp2
     go_ret
     rw [HE.out]
     exact ⟨rfl, Below.refl _ _⟩
    ·have h2' : ¬ (126 : Int) < (s[k].toNat : Int) := by omega
     have HN : Hid (∀ j (hj : j < s.size), j < k + 1 → 32 ≤ s[j].toNat ∧ s[j].toNat ≤ 126) := fun j hj hjk => by
      by_cases e : j = k
      ·subst e; omega
      ·exact HNO.out j hj (by omega)
     clear HNO
     go_wp2
     go_roundg (s.size - (k + 1))
     case measure => have := HGK.out; omega
     case rel => exact ⟨k + 1, by omega, rfl, by go_num, HN.out, rfl⟩
  ·obtain rfl : k = s.size := by omega
   have HE : Hid (owB s = decide (s.size ≤ 32)) := by
    unfold Hid
    by_cases h : s.size ≤ 32
    ·rw [decide_eq_true h]; exact owB_iff.2 ⟨fun j hj => HNO.out j hj hj, h⟩
    ·rw [decide_eq_false h]; exact owB_not.2 fun hh => h hh.2
   clear HNO
   by_cases h : s.size ≤ 32
   ·have h' : (s.size : Int) ≤ 32 := by omega
    rw [decide_eq_true h] at HE
    go_wp2
    go_ret
    rw [HE.out]
    exact ⟨by have := h'; simp, Below.refl _ _⟩
   ·have h' : ¬ (s.size : Int) ≤ 32 := by omega
    rw [decide_eq_false h] at HE
    go_wp2
    go_ret
    rw [HE.out]
    exact ⟨by have := h'; simp, Below.refl _ _⟩
end Go.Proofs.YtjlnjjmomohpaaaGreat
