/- The library's Equal at rings; the program's bordered. -/
import Derived.Test.YtbcmnhbpomjinaaGreatPgL
import Derived.Test.YtbcmnhbpomjinaaGreatNorm
import Derived.Test.YtbcmnhbpomjinaaGreatRefChkP
namespace Go.Proofs.YtbcmnhbpomjinaaGreat
open Go.RowKit

set_option maxRecDepth 100000 in
set_option maxHeartbeats 1000000 in
theorem equalP_any (ps qs : List (Int × Int)) (A B : Option Addr) (ca cb : Nat) (hn : ps.length ≤ 1000000) (w : World) (hr : Pts w w.heap.size A ps) (hr' : Pts w w.heap.size B qs) :
    Calls Tryz.prog 104 #[.slice A ps.length ca, .slice B qs.length cb] w fun e w' => e = .returned (.bool (decide (ps = qs))) ∧ Below w.heap.size w w' := by
  have HB0 := Hold.refl w
  by_cases hl : ps.length = qs.length
  · have hl1 : ((ps.length : Int) == (qs.length : Int)) = true := by rw [beq_iff_eq]; omega
    have hl2 : ((ps.length : Int) != (qs.length : Int)) = false := by simp; omega
    have HL := Lib.hid hl
    clear hl
    go_enter Tryz.func104, Tryz.ntmps104
    go_wp2_with fail
    clear hl1 hl2
    go_loopg [13] ps.length (fun g i wr => ∃ k : Nat, k ≤ ps.length ∧ g = ps.length - k ∧ i = .int .i64 k ∧ ps.take k = qs.take k ∧ Hold w [] wr)
    case atStart => exact ⟨0, Nat.zero_le _, rfl, rfl, rfl, HB0⟩
    case round =>
      clear HB0
      obtain ⟨k, hk, hgk, rfl, htk, HB⟩ := hrel
      have HGK := Lib.hid hgk
      have HTK := Lib.hid htk
      clear hgk htk
      have b0 : (0 : Int) ≤ (k : Int) := by omega
      by_cases h1 : k < ps.length
      · have h2 : k < qs.length := by have := HL.out; omega
        obtain ⟨ad, rfl, -, d0, d1⟩ := hr.at HB.1 h1
        obtain ⟨ae, rfl, -, d2, d3⟩ := hr'.at HB.1 h2
        have b1 : (k : Int) < (ps.length : Int) := by omega
        have b2 : (k : Int) < (qs.length : Int) := by omega
        have b3 : (ps.length : Int) ≤ 1000000 := by omega
        have HS := Lib.hid (take_same h1 h2 HTK.out)
        have HNE : Hid (ps[k] ≠ qs[k] → decide (ps = qs) = false) := fun h => decide_eq_false fun e => h (by simp only [e])
        clear hr hr'
        generalize ps[k] = a at *
        generalize qs[k] = b at *
        have hcs : (a.1 = b.1 ∧ a.2 = b.2) ∨ (a.1 = b.1 ∧ ¬ a.2 = b.2) ∨ ¬ a.1 = b.1 := by omega
        rcases hcs with ⟨h3, h4⟩ | ⟨h3, h4⟩ | h3
        · have HT := Lib.hid (HS.out.2 (Prod.ext h3 h4))
          have e1 : (a.1 == b.1) = true := by simpa using h3
          have e2 : (a.2 == b.2) = true := by simpa using h4
          clear h3 h4 HS HNE HTK
          go_upto_region 6 with (fail)
          go_quiet (fail)
          have HK := Lib.hid (HB.drewN nq)
          clear HB
          go_wp2
          go_roundg (ps.length - (k + 1))
          case measure => have := HGK.out; omega
          case rel => exact ⟨k + 1, by omega, rfl, by go_num, HT.out, HK.out⟩
        · have HT := Lib.hid (HNE.out (fun e => h4 (congrArg Prod.snd e)))
          have e1 : (a.1 == b.1) = true := by simpa using h3
          have e2 : (a.2 == b.2) = false := by simpa using h4
          clear h3 h4 HS HNE HTK
          go_upto_region 6 with (fail)
          go_quiet (fail)
          have HK := Lib.hid (HB.drewN nq).1
          clear HB
          go_wp2
          go_ret
          exact ⟨by rw [HT.out]; rfl, HK.out⟩
        · have HT := Lib.hid (HNE.out (fun e => h3 (congrArg Prod.fst e)))
          have e1 : (a.1 == b.1) = false := by simpa using h3
          clear h3 HS HNE HTK
          go_upto_region 6 with (fail)
          go_quiet (fail)
          have HK := Lib.hid (HB.drewN nq).1
          clear HB
          go_wp2
          go_ret
          exact ⟨by rw [HT.out]; rfl, HK.out⟩
      · obtain rfl : k = ps.length := by omega
        have HT : Hid (decide (ps = qs) = true) := decide_eq_true (by
          have h := HTK.out
          have hl := HL.out
          rw [List.take_length, hl, List.take_length] at h
          exact h)
        have HK := Lib.hid HB.1
        clear HB HTK
        go_wp2
        go_ret
        exact ⟨by rw [HT.out]; rfl, HK.out⟩
  · have hl1 : ((ps.length : Int) == (qs.length : Int)) = false := by rw [beq_eq_false_iff_ne]; omega
    have hl2 : ((ps.length : Int) != (qs.length : Int)) = true := by rw [bne_iff_ne]; omega
    have HT : Hid (decide (ps = qs) = false) := decide_eq_false fun e => hl (by rw [e])
    clear hl
    go_enter Tryz.func104, Tryz.ntmps104
    go_wp2
    go_ret
    exact ⟨by rw [HT.out]; rfl, Below.refl _ _⟩

/-- How many corners the first rings have. -/
def cornL (rs : List RV) : Nat → Nat
  | 0 => 0
  | k + 1 => cornL rs k + (match rs[k]? with | some x => x.ring.length | none => 0)
theorem cornL_succ {rs : List RV} {k : Nat} {x : RV} (h : rs[k]? = some x) : cornL rs (k + 1) = cornL rs k + x.ring.length := by rw [cornL, h]
def BordP (rs : List RV) : Prop := (∀ (k : Nat) (x : RV), rs[k]? = some x → NormP x.ring) ∧ cornL rs rs.length ≤ 1024
noncomputable def bordB (rs : List RV) : Bool := @decide (BordP rs) (Classical.propDecidable _)
theorem bordB_iff {rs : List RV} : bordB rs = true ↔ BordP rs := by unfold bordB; exact @decide_eq_true_iff _ (Classical.propDecidable _)
theorem bordB_not {rs : List RV} : bordB rs = false ↔ ¬ BordP rs := by rw [← bordB_iff, Bool.not_eq_true]
theorem nmL_eq {r : List (Int × Int)} (h : chE r = 0) : nmL r = rotL r (leastI r r.length) := by unfold nmL; rw [if_pos h]
set_option maxRecDepth 100000 in
set_option maxHeartbeats 1000000 in
theorem bordered_any (rs : List RV) (Ap : Option Addr) (cp : Nat) (hl : rs.length ≤ 1000000) (hlen : ∀ x ∈ rs, x.ring.length ≤ 8796093022208) (hcap : ∀ x ∈ rs, x.ring.length ≤ x.cap) (w : World) (hr : Rgs w Ap rs) :
    Calls Tryz.prog 84 #[.slice Ap rs.length cp] w fun e w' => e = .returned (.bool (bordB rs)) ∧ Below w.heap.size w w' := by
  have HR := Lib.hid (fun W (h : Below w.heap.size w W) => hr.on h)
  have HLL := Lib.hid hlen
  have HCP := Lib.hid hcap
  clear hr hlen hcap
  go_enter Tryz.func84, Tryz.ntmps84
  go_wp2_with fail
  go_loopg [3, 10] rs.length (fun g c i wr => ∃ k : Nat, k ≤ rs.length ∧ g = rs.length - k ∧ i = .int .i64 k ∧ c = .int .i64 (cornL rs k) ∧ cornL rs k ≤ k * 128 ∧ (∀ j x, j < k → rs[j]? = some x → NormP x.ring) ∧ Below w.heap.size w wr)
  case atStart => exact ⟨0, Nat.zero_le _, rfl, rfl, rfl, Nat.le_refl _, fun j x hj => absurd hj (by omega), Below.refl _ _⟩
  case round =>
    obtain ⟨k, hk, hgk, rfl, rfl, hcl, hno, HB⟩ := hrel
    have HGK := Lib.hid hgk
    have HNO := Lib.hid hno
    clear hgk hno
    by_cases hlt : k < rs.length
    · have hw := HR.out _ HB
      obtain ⟨ad, rfl, hadb, hc0, -⟩ := hw.1.at kindRV.len hlt
      have d0 := hc0 _ (by decide) rfl
      rw [Nat.mul_one] at d0
      have hx : rs[k]? = some rs[k] := List.getElem?_eq_getElem hlt
      have HS := Lib.hid (cornL_succ hx)
      have hll := HLL.out _ (List.getElem_mem hlt)
      have HNM := Lib.hid (fun W (h : Below wr.heap.size wr W) => Norm_any rs[k].ring rs[k].A rs[k].cap (by unfold maxLen; omega) (HCP.out _ (List.getElem_mem hlt)) W ((hw.2 _ (List.getElem_mem hlt)).on h))
      have HEQ := Lib.hid (fun qs A' c' W (h : Below wr.heap.size wr W) (hq : Pts W W.heap.size A' qs) (hqn : qs.length ≤ 1000000) => equalP_any qs rs[k].ring A' rs[k].A c' rs[k].cap hqn W hq ((hw.2 _ (List.getElem_mem hlt)).on h))
      have HBAD : Hid (¬ NormP rs[k].ring → bordB rs = false) := fun h => bordB_not.2 fun hb => h (hb.1 k _ hx)
      have HNX : Hid (NormP rs[k].ring → ∀ j x, j < k + 1 → rs[j]? = some x → NormP x.ring) := fun h j x hj hxj => by
        by_cases e : j = k
        · subst e; obtain rfl := Option.some.inj (hx.symm.trans hxj); exact h
        · exact HNO.out j x (by omega) hxj
      have HRF := Lib.hid (Below.refl wr.heap.size wr)
      have HBX := Lib.hid HB
      have b0 : (0 : Int) ≤ (k : Int) := by omega
      have b1 : (k : Int) < (rs.length : Int) := by omega
      have w1 := wrap_in (n := (cornL rs k : Int) + (rs[k].ring.length : Int)) (by omega) (by omega)
      have HCL := Lib.hid hcl
      clear hw hc0 hx hll HB hadb hcl
      obtain ⟨cl, hcl⟩ : ∃ n, cornL rs k = n := ⟨_, rfl⟩
      rw [hcl] at w1 HS HCL ⊢
      clear hcl
      generalize rs[k].ring = ps at *
      generalize rs[k].A = Ak at *
      generalize rs[k].cap = ck at *
      by_cases hch : chE ps = 0
      · have e0 : (chE ps == 0) = true := by simpa using hch
        have e0' : (chE ps != 0) = false := by simpa using hch
        have hps : ps.length ≤ 128 := (arE_zero.1 (chE_zero.1 hch).1).1
        have HPS := Lib.hid hps
        by_cases hnm : nmL ps = ps
        · have HNP : Hid (NormP ps) := ⟨hch, by rw [← nmL_eq hch]; exact hnm.symm⟩
          have HN := Lib.hid (HNX.out HNP.out)
          have e1 : decide (nmL ps = ps) = true := decide_eq_true hnm
          have HND := Lib.hid (show (nmL ps).length ≤ 1000000 by rw [hnm]; omega)
          clear hch hnm hps HBAD HNX
          generalize nmL ps = qs at *
          go_wp2_with (first
            | (go_at_call 80; go_must (refine (HNM.out _ HRF.out).mono ?_; rintro e' W3 ⟨v, rfl, hv⟩; obtain ⟨A3, c3, rfl, hp3, -, -⟩ := hv.full; have HP3 := Lib.hid hp3; have HB3 := Lib.hid hv.1; clear hp3 hv))
            | (go_at_call 104; go_must (refine (HEQ.out _ _ _ _ HB3.out HP3.out HND.out).mono ?_; rintro e' W4 ⟨rfl, hB⟩; have HB4 := Lib.hid (Below.trans HBX.out ((Below.trans HB3.out (hB.mono HB3.out.size)).mono HBX.out.size)); clear hB)))
          go_roundg (rs.length - (k + 1))
          case measure => have := HGK.out; omega
          case rel => exact ⟨k + 1, by omega, rfl, by go_num, by rw [HS.out]; simp, by have := HS.out; have := HCL.out; have := HPS.out; omega, HN.out, HB4.out⟩
        · have HF : Hid (bordB rs = false) := HBAD.out fun h => hnm (by rw [nmL_eq hch]; exact h.2.symm)
          have e1 : decide (nmL ps = ps) = false := decide_eq_false hnm
          have HND := Lib.hid (show (nmL ps).length ≤ 1000000 by rw [nmL_eq hch, rotL_length]; omega)
          clear hch hnm hps HBAD HNX
          generalize nmL ps = qs at *
          go_wp2_with (first
            | (go_at_call 80; go_must (refine (HNM.out _ HRF.out).mono ?_; rintro e' W3 ⟨v, rfl, hv⟩; obtain ⟨A3, c3, rfl, hp3, -, -⟩ := hv.full; have HP3 := Lib.hid hp3; have HB3 := Lib.hid hv.1; clear hp3 hv))
            | (go_at_call 104; go_must (refine (HEQ.out _ _ _ _ HB3.out HP3.out HND.out).mono ?_; rintro e' W4 ⟨rfl, hB⟩; have HB4 := Lib.hid (Below.trans HBX.out ((Below.trans HB3.out (hB.mono HB3.out.size)).mono HBX.out.size)); clear hB)))
          go_ret
          exact ⟨by rw [HF.out]; rfl, HB4.out⟩
      · have e0 : (chE ps == 0) = false := by simpa using hch
        have e0' : (chE ps != 0) = true := by simpa using hch
        have HF : Hid (bordB rs = false) := HBAD.out fun h => hch h.1
        clear hch HBAD HNX
        go_wp2_with (go_at_call 80; go_must (refine (HNM.out _ HRF.out).mono ?_; rintro e' W3 ⟨v, rfl, hv⟩; have HB3 := Lib.hid (Below.trans HBX.out (hv.1.mono HBX.out.size)); clear hv))
        go_ret
        exact ⟨by rw [HF.out]; rfl, HB3.out⟩
    · obtain rfl : k = rs.length := by omega
      have HG : Hid (bordB rs = decide (cornL rs rs.length ≤ 1024)) := by
        unfold Hid
        have hn : ∀ (k : Nat) (x : RV), rs[k]? = some x → NormP x.ring := fun j x hx => by
          have hj : j < rs.length := by
            by_cases hj : j < rs.length
            · exact hj
            · rw [List.getElem?_eq_none (by omega)] at hx; cases hx
          exact HNO.out j x hj hx
        by_cases h : cornL rs rs.length ≤ 1024
        · rw [decide_eq_true h]; exact bordB_iff.2 ⟨hn, h⟩
        · rw [decide_eq_false h]; exact bordB_not.2 fun hb => h hb.2
      have HB9 := Lib.hid HB
      clear HB HNO hcl
      obtain ⟨cl, hcl⟩ : ∃ n, cornL rs rs.length = n := ⟨_, rfl⟩
      rw [hcl] at HG ⊢
      clear hcl
      by_cases h : cl ≤ 1024
      · have h' : (cl : Int) ≤ 1024 := by omega
        rw [decide_eq_true h] at HG
        clear h
        go_wp2
        go_ret
        exact ⟨by rw [HG.out]; simp, HB9.out⟩
      · have h' : ¬ (cl : Int) ≤ 1024 := by omega
        rw [decide_eq_false h] at HG
        clear h
        go_wp2
        go_ret
        exact ⟨by rw [HG.out]; simp, HB9.out⟩
end Go.Proofs.YtbcmnhbpomjinaaGreat
