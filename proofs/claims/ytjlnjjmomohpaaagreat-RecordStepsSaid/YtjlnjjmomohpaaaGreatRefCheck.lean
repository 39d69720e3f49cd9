/- The contracts of the document's own answers: the sign, and which of two is greater. -/
import Derived.Test.YtjlnjjmomohpaaaGreatRefB
import Derived.Test.YtjlnjjmomohpaaaGreatRefSide
import Derived.Test.YtjlnjjmomohpaaaGreatRefMeet
import Derived.BigQuiet
namespace Go.Proofs.YtjlnjjmomohpaaaGreat
open Go.RowKit

theorem sign_cases {h l : Int} (wf : Wf h l) : cmp h l 0 0 = if h < 0 then -1 else if h = 0 then (if l = 0 then 0 else 1) else 1 := by
 have w0 : Wf 0 0 := by unfold Wf; omega
 rw [cmp_val wf w0]
 unfold Wf at wf
 have hz : val 0 0 = 0 := rfl
 rw [hz]
 unfold val
 split <;> split <;> (try split) <;> (try split) <;> omega

set_option maxHeartbeats 400000 in
theorem ref_sign (h l : Int) (wf : Wf h l) (w : World) :
  Calls Tryz.prog 115 #[.agg #[.int .i64 h, .int .u64 l]] w fun e w' => e = .returned (.int .i64 (cmp h l 0 0)) ∧ Below w.heap.size w w' := by
 have HS := Lib.hid (sign_cases wf)
 clear wf
 by_cases h1 : h < 0
 ·have HG : Hid (cmp h l 0 0 = -1) := by unfold Hid; rw [HS.out, if_pos h1]
  clear HS
  go_enter Tryz.func115, Tryz.ntmps115
  go_wp2
  go_ret
  rw [HG.out]
  exact ⟨rfl, by go_grown⟩
 ·by_cases h2 : h = 0
  ·subst h2
   by_cases h3 : l = 0
   ·subst h3
    have HG : Hid (cmp 0 0 0 0 = 0) := by unfold Hid; rw [HS.out]; rfl
    clear HS
    go_enter Tryz.func115, Tryz.ntmps115
    go_wp2
    go_ret
    rw [HG.out]
    exact ⟨rfl, by go_grown⟩
   ·have HG : Hid (cmp 0 l 0 0 = 1) := by unfold Hid; rw [HS.out, if_neg h1, if_pos rfl, if_neg h3]
    clear HS
    have e1 : (l == 0) = false := by simpa using h3
    go_enter Tryz.func115, Tryz.ntmps115
    go_wp2
    go_ret
    rw [HG.out]
    exact ⟨rfl, by go_grown⟩
  ·have HG : Hid (cmp h l 0 0 = 1) := by unfold Hid; rw [HS.out, if_neg h1, if_neg h2]
   clear HS
   have e1 : (h == 0) = false := by simpa using h2
   go_enter Tryz.func115, Tryz.ntmps115
   go_wp2
   go_ret
   rw [HG.out]
   exact ⟨rfl, by go_grown⟩

end Go.Proofs.YtjlnjjmomohpaaaGreat

namespace Go.Proofs.YtjlnjjmomohpaaaGreat
open Go.RowKit

open Classical in
noncomputable def chE (ps : List (Int × Int)) : Int := if arE ps ≠ 0 then arE ps else if Sound ps then 0 else 4
theorem chE_bad {ps : List (Int × Int)} (h : arE ps ≠ 0) : chE ps = arE ps := by unfold chE; rw [if_pos h]
theorem chE_sound {ps : List (Int × Int)} (h : arE ps = 0) (hs : Sound ps) : chE ps = 0 := by unfold chE; rw [if_neg (by omega), if_pos hs]
theorem chE_unsound {ps : List (Int × Int)} (h : arE ps = 0) (hs : ¬ Sound ps) : chE ps = 4 := by unfold chE; rw [if_neg (by omega), if_neg hs]
def nxB (n i j : Nat) : Bool := decide (j = i + 1 ∨ (i = 0 ∧ j + 1 = n))
theorem apart_test {ps : List (Int × Int)} {i j : Nat} (hn : 3 ≤ ps.length) (hij : i < j) (hj : j < ps.length) : Apart ps i j ↔ nx ps i ≠ nx ps j ∧ meetN (nx ps i) (nx ps (i + 1)) (nx ps j) (nx ps (j + 1)) = if nxB ps.length i j then 1 else 0 := by
 unfold Apart nxB
 rw [adj_lt hn hij hj, meetN_eq]
 constructor
 ·rintro ⟨h1, h2, h3⟩
  refine ⟨h1, ?_⟩
  by_cases h : j = i + 1 ∨ (i = 0 ∧ j + 1 = ps.length)
  ·rw [decide_eq_true h, if_pos rfl]; exact h2 (by omega)
  ·rw [decide_eq_false h, if_neg (by decide)]; exact h3 (by omega)
 ·rintro ⟨h1, h2⟩
  refine ⟨h1, fun h => ?_, fun h => ?_⟩
  ·rw [decide_eq_true (by omega), if_pos rfl] at h2; exact h2
  ·rw [decide_eq_false (by omega), if_neg (by decide)] at h2; exact h2

def FP (w : World) (q : Addr) (a : Int × Int) : Prop := q.block < w.heap.size ∧ w.cell? q = some (.int .i64 a.1) ∧ w.cell? ⟨q.block, q.off + 1, none⟩ = some (.int .i64 a.2)
section
variable {w W : World} {L : List (Nat × Array Value × TypeId)} {q0 q1 q2 q3 : Addr} {a b c d : Int × Int}
theorem Hold.fp (h : Hold w L W) (f : FP w q0 a) : W.cell? q0 = some (.int .i64 a.1) ∧ W.cell? ⟨q0.block, q0.off + 1, none⟩ = some (.int .i64 a.2) :=
 ⟨h.far f.1 f.2.1, h.far (q := ⟨q0.block, q0.off + 1, none⟩) f.1 f.2.2⟩
theorem Hold.fp4 (h : Hold w L W) (f0 : FP w q0 a) (f1 : FP w q1 b) (f2 : FP w q2 c) (f3 : FP w q3 d) : W.cell? q0 = some (.int .i64 a.1) ∧ W.cell? ⟨q0.block, q0.off + 1, none⟩ = some (.int .i64 a.2) ∧ W.cell? q1 = some (.int .i64 b.1) ∧ W.cell? ⟨q1.block, q1.off + 1, none⟩ = some (.int .i64 b.2) ∧ W.cell? q2 = some (.int .i64 c.1) ∧ W.cell? ⟨q2.block, q2.off + 1, none⟩ = some (.int .i64 c.2) ∧ W.cell? q3 = some (.int .i64 d.1) ∧ W.cell? ⟨q3.block, q3.off + 1, none⟩ = some (.int .i64 d.2) :=
 ⟨(h.fp f0).1, (h.fp f0).2, (h.fp f1).1, (h.fp f1).2, (h.fp f2).1, (h.fp f2).2, (h.fp f3).1, (h.fp f3).2⟩
end
theorem Pts.fp {w : World} {A : Option Addr} {ps : List (Int × Int)} (h : Pts w w.heap.size A ps) {k i : Nat} (hk : k < ps.length) (hi : i % ps.length = k) : ∃ ad, A = some ad ∧ FP w (ad.add (k * 2)) (Go.Proofs.YtjlnjjmomohpaaaGreat.nx ps i) := by
 obtain ⟨ad, e, hb, c0, c1⟩ := h.nx (Below.refl _ w) hk hi
 exact ⟨ad, e, by rw [block_of_add]; exact hb, c0, c1⟩

set_option maxHeartbeats 800000 in
theorem ref_check_bad (ps : List (Int × Int)) (A : Option Addr) (cap : Nat) (hn : ps.length ≤ maxLen) (he : arE ps ≠ 0) (w : World) (hr : Pts w w.heap.size A ps) :
  Calls Tryz.prog 72 #[.slice A ps.length cap] w fun e w' => e = .returned (.int .i64 (arE ps)) ∧ Below w.heap.size w w' := by
 have H := Lib.hid (ref_area_bad ps A cap hn he w hr)
 have e0 : (arE ps != 0) = true := by simpa using he
 clear hn he hr
 go_enter Tryz.func72, Tryz.ntmps72
 go_wp2_with fail
 go_at_call 33
 refine H.out.mono ?_
 rintro e w1 ⟨rfl, hB⟩
 go_wp2
 go_ret
 exact ⟨rfl, hB.alloc hB.size _⟩

set_option maxRecDepth 100000 in
set_option maxHeartbeats 4000000 in
theorem ref_check_good (ps : List (Int × Int)) (A : Option Addr) (cap : Nat) (he : arE ps = 0) (w : World) (hr : Pts w w.heap.size A ps) :
  Calls Tryz.prog 72 #[.slice A ps.length cap] w fun e w' => e = .returned (.int .i64 (chE ps)) ∧ Below w.heap.size w w' := by
 have h1 : ps.length ≤ 128 := by
  by_cases h : 128 < ps.length
  ·unfold arE at he; rw [if_pos h] at he; omega
  ·omega
 have hg : gdL ps = true := by
  cases h : gdL ps
  ·unfold arE at he; rw [if_neg (by omega), h] at he; exact absurd he (by decide)
  ·rfl
 have H := Lib.hid (ref_area_good ps A cap he w hr)
 have hin : InR (area ps) := rim_inR hg h1 (Nat.le_refl _)
 have hsg := fun W => ref_sign _ _ (wf_of hin) W
 rw [cmp_sgn hin] at hsg
 have HSG := Lib.hid hsg
 have HR := Lib.hid hr
 have HGD := Lib.hid (fun h0 i => nx_gd hg h0 i)
 have HSI := Lib.hid (sound_iff (r := ps))
 have HCS : Hid (Sound ps → chE ps = 0) := chE_sound he
 have HCU : Hid (¬ Sound ps → chE ps = 4) := chE_unsound he
 clear hsg hin he hr hg
 go_enter Tryz.func72, Tryz.ntmps72
 go_wp2_with fail
 go_at_call 33
 refine H.out.mono ?_
 rintro e w1 ⟨rfl, hB⟩
 have HQ := ((Hold.refl w).on hB).new #[.int .i64 (hiOf (area ps)), .int .u64 (loOf (area ps))] 67
 clear H hB
 by_cases h3 : ps.length < 3
 ·have h3' : (ps.length : Int) < 3 := by omega
  have hu : Hid (chE ps = 4) := HCU.out fun hs => by have := (HSI.out.1 hs).1; omega
  have HB := Lib.hid HQ.1
  clear HCS HCU HSI HQ
  go_wp2
  go_ret
  rw [hu.out]
  exact ⟨rfl, HB.out⟩
 ·have h3' : ¬ (ps.length : Int) < 3 := by omega
  obtain ⟨f0, f1⟩ := HQ.pt (.head _)
  go_wp2_with fail
  go_at_call 115
  refine (HSG.out _).mono ?_
  rintro e w2 ⟨rfl, hB⟩
  replace HQ := HQ.on hB
  clear hB HSG f0 f1
  by_cases h4 : sgn (area ps) = 1
  ·have e4 : (sgn (area ps) != 1) = false := by simpa using h4
   have hpos : 0 < area ps := by rw [← sgn_gt, h4]; omega
   have HPOS := Lib.hid hpos
   have HB : Hold w [] w2 := HQ.bare
   clear h4 hpos HQ
   go_wp2_with fail
   have hn3 : 3 ≤ ps.length := by omega
   have HL3 := Lib.hid hn3
   clear hn3 h3 h3' e4
   go_loopg [6] ps.length (fun g i wr => ∃ k : Nat, k ≤ ps.length ∧ g = ps.length - k ∧ i = .int .i64 k ∧ (∀ i', i' < k → ∀ j', i' < j' → j' < ps.length → Apart ps i' j') ∧ Hold w [] wr)
   case atStart => exact ⟨0, Nat.zero_le _, rfl, rfl, fun i' hi => absurd hi (by omega), HB⟩
   case round =>
    clear HB
    obtain ⟨k, hk, hgk, rfl, hap, HB⟩ := hrel
    have HGK := Lib.hid hgk
    have HAP := Lib.hid hap
    clear hgk hap
    by_cases hlt : k < ps.length
    ·obtain ⟨jk, hjk, ek1, ek2, ek3⟩ := next_place hlt
     obtain ⟨ad, hA, F0⟩ := HR.out.fp hlt (Nat.mod_eq_of_lt hlt)
     obtain ⟨ad', e', F1⟩ := HR.out.fp hjk ek1
     obtain rfl := Option.some.inj (hA.symm.trans e')
     have HF0 := Lib.hid F0
     have HF1 := Lib.hid F1
     have HA := Lib.hid hA
     have b0 : (0 : Int) ≤ (k : Int) := by omega
     have b1 : (k : Int) < (ps.length : Int) := by omega
     have b2 : (0 : Int) < (ps.length : Int) := by omega
     have b4 : (0 : Int) ≤ (jk : Int) := by omega
     have b5 : (jk : Int) < (ps.length : Int) := by omega
     clear F0 F1 hA e' ek1
     go_wp2_with fail
     go_loopg [7] (ps.length - (k + 1)) (fun g j wr => ∃ m : Nat, k < m ∧ m ≤ ps.length ∧ g = ps.length - m ∧ j = .int .i64 m ∧ (∀ j', k < j' → j' < m → Apart ps k j') ∧ Hold w [] wr)
     case atStart => exact ⟨k + 1, by omega, by omega, rfl, by go_num, fun j' h h' => absurd h (by omega), HB⟩
     case round =>
      clear HB
      obtain ⟨m, hkm, hm, hgm, rfl, hapm, HB⟩ := hrel
      have HGM := Lib.hid hgm
      have HAPM := Lib.hid hapm
      clear hgm hapm
      by_cases hltm : m < ps.length
      ·obtain ⟨jm, hjm, em1, em2, em3⟩ := next_place hltm
       obtain ⟨ad2, hA2, F2⟩ := HR.out.fp hltm (Nat.mod_eq_of_lt hltm)
       obtain ⟨ad3, hA3, F3⟩ := HR.out.fp hjm em1
       obtain rfl := Option.some.inj (HA.out.symm.trans hA2)
       obtain rfl := Option.some.inj (HA.out.symm.trans hA3)
       obtain rfl := HA.out
       have b6 : (0 : Int) ≤ (m : Int) := by omega
       have b7 : (m : Int) < (ps.length : Int) := by omega
       have b8 : (0 : Int) ≤ (jm : Int) := by omega
       have b9 : (jm : Int) < (ps.length : Int) := by omega
       have HF2 := Lib.hid F2
       have HF3 := Lib.hid F3
       have ga := HGD.out (by omega) k
       have gb := HGD.out (by omega) (k + 1)
       have gc := HGD.out (by omega) m
       have gd' := HGD.out (by omega) (m + 1)
       have HM := Lib.hid (fun W => ref_meet _ _ _ _ ga gb gc gd' W)
       have HT := Lib.hid (apart_test HL3.out hkm hltm)
       have HBAD : Hid (¬ Apart ps k m → chE ps = 4) := fun h => HCU.out fun hs => h ((HSI.out.1 hs).2.2 k m hkm hltm)
       have HGO : Hid (Apart ps k m → ∀ j', k < j' → j' < m + 1 → Apart ps k j') := fun h j' h1 h2 => by
        by_cases e : j' = m
        ·subst e; exact h
        ·exact HAPM.out j' h1 (by omega)
       clear F2 F3 hA2 hA3 em1 ga gb gc gd'
       generalize Apart ps k m = AP at *
       generalize nx ps (k + 1) = b at *
       generalize nx ps (m + 1) = d at *
       generalize nx ps k = a at *
       generalize nx ps m = c at *
       generalize meetN a b c d = M at *
       obtain ⟨f0, f1, f2, f3, f4, f5, f6, f7⟩ := HB.fp4 HF0.out HF1.out HF2.out HF3.out
       have hcs : (a.1 = c.1 ∧ a.2 = c.2) ∨ (a.1 = c.1 ∧ ¬ a.2 = c.2) ∨ ¬ a.1 = c.1 := by omega
       rcases hcs with ⟨h1, h2⟩ | hcs
       ·have hu : Hid (chE ps = 4) := HBAD.out fun h => (HT.out.1 h).1 (Prod.ext h1 h2)
        have e1 : (a.1 == c.1) = true := by simpa using h1
        have e2 : (a.2 == c.2) = true := by simpa using h2
        clear h1 h2 HBAD HGO HT HM HCS HCU HSI HAP HAPM
        go_upto_region 13 with (fail)
        go_quiet (fail)
        have HK := Lib.hid (HB.drewN nq).1
        go_wp2
        go_ret
        rw [hu.out]
        exact ⟨rfl, HK.out⟩
       ·have hne : a ≠ c := fun e => by subst e; omega
        have HNE := Lib.hid hne
        have hcs' : ((a.1 == c.1) = true ∧ (a.2 == c.2) = false) ∨ (a.1 == c.1) = false := by
         rcases hcs with ⟨h1, h2⟩ | h1
         ·exact .inl ⟨by simpa using h1, by simpa using h2⟩
         ·exact .inr (by simpa using h1)
        clear hcs hne
        go_upto_region 13 with (fail)
        go_cut [47] (fun s47 wx => s47 = .bool false ∧ Hold w [] wx)
        case first =>
         rcases hcs' with ⟨e1, e2⟩ | e1
         ·go_quiet (fail)
          have HK := Lib.hid (HB.drewN nq)
          go_wp2
          go_meet
          exact ⟨rfl, HK.out⟩
         ·go_quiet (fail)
          have HK := Lib.hid (HB.drewN nq)
          go_wp2
          go_meet
          exact ⟨rfl, HK.out⟩
        case rest =>
         clear HB f0 f1 f2 f3 f4 f5 f6 f7 hcs'
         obtain ⟨rfl, HB⟩ := hcut
         obtain ⟨f0, f1, f2, f3, f4, f5, f6, f7⟩ := HB.fp4 HF0.out HF1.out HF2.out HF3.out
         go_upto_region 15 with (fail)
         go_cut [8] (fun s8 wx => s8 = .int .i64 M ∧ Hold w [] wx)
         case first =>
          have z1 : ((ps.length : Int) == 0) = false := by rw [beq_eq_false_iff_ne]; omega
          have z2 : ¬ (ps.length : Int) = 0 := by omega
          have z7 : ¬ ps.length = 0 := by omega
          have z8 : ¬ ps = [] := fun e => z7 (by rw [e]; rfl)
          have z3 := wrap_in (n := (k : Int) + 1) (by omega) (by omega)
          have z4 := wrap_in (n := (m : Int) + 1) (by omega) (by omega)
          have z5 := wrap_in (n := (jk : Int)) (by omega) (by omega)
          have z6 := wrap_in (n := (jm : Int)) (by omega) (by omega)
          go_region_held3 (fun W => W.cell? (ad.add (k * 2)) = some (.int .i64 a.1) ∧ W.cell? ⟨(ad.add (k * 2)).block, (ad.add (k * 2)).off + 1, none⟩ = some (.int .i64 a.2) ∧ W.cell? (ad.add (jk * 2)) = some (.int .i64 b.1) ∧ W.cell? ⟨(ad.add (jk * 2)).block, (ad.add (jk * 2)).off + 1, none⟩ = some (.int .i64 b.2) ∧ W.cell? (ad.add (m * 2)) = some (.int .i64 c.1) ∧ W.cell? ⟨(ad.add (m * 2)).block, (ad.add (m * 2)).off + 1, none⟩ = some (.int .i64 c.2) ∧ W.cell? (ad.add (jm * 2)) = some (.int .i64 d.1) ∧ W.cell? ⟨(ad.add (jm * 2)).block, (ad.add (jm * 2)).off + 1, none⟩ = some (.int .i64 d.2)) (first | exact Hold.fp4 (L := []) (by assumption) HF0.out HF1.out HF2.out HF3.out | exact Hold.fp4 (L := []) (Hold.drew (by assumption)) HF0.out HF1.out HF2.out HF3.out) ((go_at_call 39; (with_reducible refine (HM.out _).mono ?_); rintro e w' ⟨rfl, hB⟩; have HS' := Hold.on (L := []) (by first | assumption | exact Hold.drew (by assumption)) hB))
          go_wp2_with fail
          go_meet
          exact ⟨rfl, HS'⟩
         case rest =>
          clear HB f0 f1 f2 f3 f4 f5 f6 f7 HM
          obtain ⟨rfl, HB⟩ := hcut
          go_upto_region 16 with (fail)
          go_cut [9] (fun s9 wx => s9 = .bool (nxB ps.length k m) ∧ Hold w [] wx)
          case first =>
           have hcs : (m = k + 1) ∨ (¬ m = k + 1 ∧ ¬ k = 0) ∨ (¬ m = k + 1 ∧ k = 0 ∧ m + 1 = ps.length) ∨ (¬ m = k + 1 ∧ k = 0 ∧ ¬ m + 1 = ps.length) := by omega
           rcases hcs with h1 | ⟨h1, h2⟩ | ⟨h1, h2, h4⟩ | ⟨h1, h2, h4⟩
           ·have hv : Hid (nxB ps.length k m = true) := decide_eq_true (.inl h1)
            have e1 : ((m : Int) == (k : Int) + 1) = true := by rw [beq_iff_eq]; omega
            clear h1
            go_wp2
            go_meet
            exact ⟨by rw [hv.out], HB⟩
           ·have hv : Hid (nxB ps.length k m = false) := decide_eq_false (by omega)
            have e1 : ((m : Int) == (k : Int) + 1) = false := by rw [beq_eq_false_iff_ne]; omega
            have e2 : ((k : Int) == 0) = false := by rw [beq_eq_false_iff_ne]; omega
            clear h1 h2
            go_wp2
            go_meet
            exact ⟨by rw [hv.out], HB⟩
           ·have hv : Hid (nxB ps.length k m = true) := decide_eq_true (.inr ⟨h2, h4⟩)
            have e1 : ((m : Int) == (k : Int) + 1) = false := by rw [beq_eq_false_iff_ne]; omega
            have e2 : ((k : Int) == 0) = true := by rw [beq_iff_eq]; omega
            have e4 : ((m : Int) == (ps.length : Int) - 1) = true := by rw [beq_iff_eq]; omega
            clear h1 h2 h4
            go_wp2
            go_meet
            exact ⟨by rw [hv.out], HB⟩
           ·have hv : Hid (nxB ps.length k m = false) := decide_eq_false (by omega)
            have e1 : ((m : Int) == (k : Int) + 1) = false := by rw [beq_eq_false_iff_ne]; omega
            have e2 : ((k : Int) == 0) = true := by rw [beq_iff_eq]; omega
            have e4 : ((m : Int) == (ps.length : Int) - 1) = false := by rw [beq_eq_false_iff_ne]; omega
            clear h1 h2 h4
            go_wp2
            go_meet
            exact ⟨by rw [hv.out], HB⟩
          case rest =>
           clear HB
           obtain ⟨rfl, HB⟩ := hcut
           by_cases hap : AP
           ·have hM := (HT.out.1 hap).2
            have HNX := Lib.hid (HGO.out hap)
            clear HT HBAD HGO HNE HAP HAPM hap
            have HBK := Lib.hid HB
            cases hb : nxB ps.length k m
            all_goals
             rw [hb] at hM
             simp only [if_true, Bool.false_eq_true, if_false] at hM
             subst hM
             clear HB
             go_wp2
             go_roundg (ps.length - (m + 1))
             case measure => have := HGM.out; omega
             case rel => exact ⟨m + 1, by omega, by omega, rfl, by go_num, HNX.out, HBK.out⟩
           ·have hM : ¬ M = if nxB ps.length k m then 1 else 0 := fun e => hap (HT.out.2 ⟨HNE.out, e⟩)
            have hu : Hid (chE ps = 4) := HBAD.out hap
            have HBK := Lib.hid HB.1
            clear HT HBAD HGO HNE HAP HAPM hap HB HCS HCU HSI
            cases hb : nxB ps.length k m
            ·rw [hb] at hM
             simp only [Bool.false_eq_true, if_false] at hM
             have e1 : (M != 0) = true := by simpa using hM
             clear hM
             go_wp2
             go_ret
             rw [hu.out]
             exact ⟨rfl, HBK.out⟩
            ·rw [hb] at hM
             simp only [if_true] at hM
             have e1 : (M != 1) = true := by simpa using hM
             clear hM
             go_wp2
             go_ret
             rw [hu.out]
             exact ⟨rfl, HBK.out⟩
      ·obtain rfl : m = ps.length := by omega
       have HNX : Hid (∀ i', i' < k + 1 → ∀ j', i' < j' → j' < ps.length → Apart ps i' j') := fun i' h j' h1 h2 => by
        by_cases e : i' = k
        ·subst e; exact HAPM.out j' h1 h2
        ·exact HAP.out i' (by omega) j' h1 h2
       have HBK := Lib.hid HB
       clear HAP HAPM HB HCS HCU HSI
       go_wp2
       go_roundg (ps.length - (k + 1))
       case measure => have := HGK.out; omega
       case rel => exact ⟨k + 1, by omega, rfl, by go_num, HNX.out, HBK.out⟩
    ·obtain rfl : k = ps.length := by omega
     have hs : Sound ps := HSI.out.2 ⟨HL3.out, HPOS.out, fun i j hij hj => HAP.out i (by omega) j hij hj⟩
     have hu : Hid (chE ps = 0) := HCS.out hs
     have HBK := Lib.hid HB.1
     clear HAP HB HCS HCU HSI hs
     go_wp2
     go_ret
     rw [hu.out]
     exact ⟨rfl, HBK.out⟩
  ·have e4 : (sgn (area ps) != 1) = true := by simpa using h4
   have hu : Hid (chE ps = 4) := HCU.out fun hs => h4 (by have := (HSI.out.1 hs).2.1; unfold sgn; rw [if_neg (by omega), if_neg (by omega)])
   have HB := Lib.hid HQ.1
   clear HCS HCU HSI HQ h4
   go_wp2
   go_ret
   rw [hu.out]
   exact ⟨rfl, HB.out⟩
end Go.Proofs.YtjlnjjmomohpaaaGreat
