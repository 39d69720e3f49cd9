/- The library's Index, Contains and Concat at points and rings. -/
import Derived.Test.YtfjfmieadedjoaaPgL
import Derived.Test.YtfjfmieadedjoaaNorm
import Derived.Test.YtfjfmieadedjoaaRefFine
namespace Go.Proofs.Ytfjfmieadedjoaa
open Go.RowKit
set_option maxRecDepth 100000 in
set_option maxHeartbeats 2000000 in
theorem indexP_any (ps : List (Int × Int)) (A : Option Addr) (cap : Nat) (p : Int × Int) (hn : ps.length ≤ 1000000) (w : World) (hr : Pts w w.heap.size A ps) :
  Calls Try.prog 27 #[.slice A ps.length cap, .agg #[.int .i64 p.1, .int .i64 p.2]] w fun e' w' => ∃ n, e' = .returned (.int .i64 n) ∧ Plc ps p n ∧ Below w.heap.size w w' := by
 have HR := Lib.hid hr
 have HQ := (Hold.refl w).new #[.int .i64 p.1, .int .i64 p.2] 28
 clear hr
 go_enter Try.func27, Try.ntmps27
 go_upto_region 1 with (fail)
 generalize (World.alloc _ _) = W1 at HQ ⊢
 obtain ⟨g0, hg0⟩ : ∃ g, w.heap.size = g := ⟨_, rfl⟩
 have HBW := Lib.hid (fun K W (h : Hold w K W) => (show Below w.heap.size w W from h.1))
 rw [hg0] at HQ ⊢
 have HG0 := Lib.hid hg0
 clear hg0
 go_wp2_with fail
 go_loopg [8] ps.length (fun g i wr => ∃ k : Nat, k ≤ ps.length ∧ g = ps.length - k ∧ i = .int .i64 k ∧ (∀ j : Nat, j < k → ps[j]? ≠ some p) ∧ Hold w [(g0, #[.int .i64 p.1, .int .i64 p.2], 28)] wr)
 case atStart => exact ⟨0, Nat.zero_le _, rfl, rfl, fun j hj => absurd hj (by omega), HQ⟩
 case round =>
  clear HQ
  obtain ⟨k, hk, hgk, rfl, hno, HB⟩ := hrel
  have HGK := Lib.hid hgk
  have HNO := Lib.hid hno
  clear hgk hno
  by_cases hlt : k < ps.length
  ·obtain ⟨ad, rfl, -, d0, d1⟩ := HR.out.at (HBW.out _ _ HB) hlt
   obtain ⟨c0, c1⟩ := HB.pt List.mem_cons_self
   have HAT : Hid (ps[k]? = some ps[k]) := List.getElem?_eq_getElem hlt
   have b0 : (0 : Int) ≤ (k : Int) := by omega
   have b1 : (k : Int) < (ps.length : Int) := by omega
   have HGN : Hid (ps[k] ≠ p → ∀ j : Nat, j < k + 1 → ps[j]? ≠ some p) := fun h j hj hh => by
    by_cases ej : j = k
    ·subst ej; rw [HAT.out] at hh; exact h (Option.some.inj hh)
    ·exact HNO.out j (by omega) hh
   clear HR HBW
   generalize ps[k] = x at *
   have hw : (p.1 = x.1 ∧ p.2 = x.2) ∨ ¬ p.1 = x.1 ∨ (p.1 = x.1 ∧ ¬ p.2 = x.2) := by omega
   go_upto_region 4 with (fail)
   rcases hw with ⟨h1, h2⟩ | h1 | ⟨h1, h2⟩
   ·have HP : Hid (Plc ps p k) := .inr ⟨k, rfl, by rw [HAT.out]; exact congrArg some (Prod.ext h1.symm h2.symm), HNO.out⟩
    have e1 : (p.1 == x.1) = true := by simpa using h1
    have e2 : (p.2 == x.2) = true := by simpa using h2
    clear h1 h2 HGN HAT HNO HGK
    go_quiet (fail)
    have HK := Lib.hid (HB.drewN nq).1
    clear HB
    go_wp2
    go_ret
    exact ⟨_, rfl, HP.out, HK.out⟩
   ·have HN := Lib.hid (HGN.out fun h => h1 (by rw [h]))
    have e1 : (p.1 == x.1) = false := by simpa using h1
    clear h1 HGN HAT HNO
    go_quiet (fail)
    have HK := Lib.hid (HB.drewN nq)
    clear HB
    go_wp2
    go_roundg (ps.length - (k + 1))
    case measure => have := HGK.out; omega
    case rel => exact ⟨k + 1, by omega, rfl, by go_num, HN.out, HK.out⟩
   ·have HN := Lib.hid (HGN.out fun h => h2 (by rw [h]))
    have e1 : (p.1 == x.1) = true := by simpa using h1
    have e2 : (p.2 == x.2) = false := by simpa using h2
    clear h1 h2 HGN HAT HNO
    go_quiet (fail)
    have HK := Lib.hid (HB.drewN nq)
    clear HB
    go_wp2
    go_roundg (ps.length - (k + 1))
    case measure => have := HGK.out; omega
    case rel => exact ⟨k + 1, by omega, rfl, by go_num, HN.out, HK.out⟩
  ·obtain rfl : k = ps.length := by omega
   have HP : Hid (Plc ps p (-1)) := .inl ⟨rfl, fun h => by
    obtain ⟨i, hi, rfl⟩ := List.getElem_of_mem h
    exact HNO.out i hi (List.getElem?_eq_getElem hi)⟩
   have HK := Lib.hid HB.1
   clear HB HNO HR HBW
   go_wp2
   go_ret
   exact ⟨_, rfl, HP.out, HK.out⟩
set_option maxHeartbeats 1000000 in
theorem containsP_any (ps : List (Int × Int)) (A : Option Addr) (cap : Nat) (p : Int × Int) (hn : ps.length ≤ 1000000) (w : World) (hr : Pts w w.heap.size A ps) :
  Calls Try.prog 12 #[.slice A ps.length cap, .agg #[.int .i64 p.1, .int .i64 p.2]] w fun e' w' => e' = .returned (.bool (decide (p ∈ ps))) ∧ Below w.heap.size w w' := by
 have HQ := (Hold.refl w).new #[.int .i64 p.1, .int .i64 p.2] 28
 have HI := Lib.hid (fun W (h : Below w.heap.size w W) => indexP_any ps A cap p hn W (hr.on h))
 obtain ⟨bb, hbb⟩ : ∃ b : Bool, decide (p ∈ ps) = b := ⟨_, rfl⟩
 have HBB : Hid (∀ n, Plc ps p n → decide (0 ≤ n) = bb) := fun n hp => by rw [← hbb]; exact decide_eq_decide.2 hp.pos
 rw [hbb]
 clear hr hbb
 go_enter Try.func12, Try.ntmps12
 go_upto_region 1 with (fail)
 generalize (World.alloc _ _) = W1 at HQ ⊢
 generalize w.heap.size = g0 at HQ ⊢
 obtain ⟨c0, c1⟩ := HQ.pt List.mem_cons_self
 have HQ1 := Lib.hid HQ
 clear HQ
 go_wp2_with (go_at_call 27; go_must (refine (HI.out _ HQ1.out.1).mono ?_; rintro e' w' ⟨n, rfl, hp, hb⟩; have HP := Lib.hid (HBB.out n hp); have HB := Lib.hid (HQ1.out.on hb).1; clear hp hb))
 go_ret
 exact ⟨by rw [← HP.out]; rfl, HB.out⟩

theorem grow_big (n : Nat) (h0 : 0 < n) (hn : n ≤ 1000000) (w : World) :
  Calls Try.prog 37 #[.slice none 0 0, .int .i64 n] w fun e w' => ∃ v, e = .returned v ∧ Row w v [] w' := by
 obtain ⟨i0, hi, hz0, hz1, hz2⟩ := info_parts infoP
 have h : Calls Try.prog 37 #[.slice none 0 0, .int .i64 n] w _ := Any8.slices_Grow_grow growLays i0 _ hi hz0 (by rw [hz1]; omega) none 0 0 n [] w (Nat.le_refl _) (by omega) (by rw [hz2]; omega) (by omega) (by simp) (fun _ => rfl) (fun a h => by cases h)
 refine h.mono ?_
 rintro e w' ⟨rfl, rfl⟩
 have hge := Go.grownCap_ge w (0 + n) 0 28
 refine ⟨_, rfl, ((Below.refl _ w).drew).alloc (Nat.le_refl _) _, ?_⟩
 refine World.ownsRow_made w.drew _ _ (Nat.le_refl _) (Go.grownCap_le_maxLen w (0 + n) 0 28 (by unfold maxLen; omega)) ?_
 have hz : (Value.agg #[.int .i64 0, .int .i64 0]).cells.size = 2 := rfl
 have e25 : growRen.t 25 = 28 := rfl
 simp only [Nat.zero_add] at hge ⊢
 simp only [Array.size_append, Go.size_zeroCells, hz, e25, Nat.sub_zero]
 generalize grownCap w n 0 28 = c at *
 simp
 omega
def flatR (rs : List RV) : List (Int × Int) := rs.flatMap RV.ring
theorem flatR_take {rs : List RV} {k : Nat} (hk : k < rs.length) : flatR (rs.take (k + 1)) = flatR (rs.take k) ++ rs[k].ring := by
 rw [List.take_succ_eq_append_getElem hk]; unfold flatR
 rw [List.flatMap_append]; simp
theorem flatR_le (rs : List RV) (k : Nat) : (flatR (rs.take k)).length ≤ (flatR rs).length := by
 have : flatR rs = flatR (rs.take k) ++ flatR (rs.drop k) := by
  conv => lhs; rw [← List.take_append_drop k rs]
  unfold flatR; rw [List.flatMap_append]
 rw [this, List.length_append]; omega
set_option maxRecDepth 100000 in
set_option maxHeartbeats 2000000 in
theorem concats_any (rs : List RV) (Ar : Option Addr) (cr : Nat) (hlr : rs.length ≤ 1000000) (hnil : ∀ x ∈ rs, NilOk x.A x.cap) (h0 : 0 < (flatR rs).length) (hn : (flatR rs).length ≤ 1000000) (w : World) (hr : Rgs w Ar rs) :
  Calls Try.prog 25 #[.slice Ar rs.length cr] w fun e w' => ∃ v, e = .returned v ∧ Row w v (flatR rs) w' := by
 have HR := Lib.hid (fun W (h : Below w.heap.size w W) => hr.on h)
 have HNL := Lib.hid hnil
 have HLR := Lib.hid hlr
 have HFN := Lib.hid hn
 have HG := Lib.hid (fun W => grow_big (flatR rs).length h0 hn W)
 have HB0 := Below.refl w.heap.size w
 clear hr hnil h0 hn hlr
 go_enter Try.func25, Try.ntmps25
 go_wp2_with fail
 go_loopg [3, 11] rs.length (fun g s i wr => ∃ k : Nat, k ≤ rs.length ∧ g = rs.length - k ∧ i = .int .i64 k ∧ s = .int .i64 ((flatR (rs.take k)).length : Int) ∧ w = wr)
 case atStart => exact ⟨0, Nat.zero_le _, rfl, rfl, rfl, rfl⟩
 case round =>
  obtain ⟨k, hk, hgk, rfl, rfl, rfl⟩ := hrel
  have HGK := Lib.hid hgk
  clear hgk
  by_cases hlt : k < rs.length
  ·obtain ⟨ad, rfl, -, hc0, -⟩ := (HR.out _ HB0).1.at kindRV.len hlt
   have d0 := hc0 _ (by decide) rfl
   rw [Nat.mul_one] at d0
   have hT := flatR_take hlt
   have hle := flatR_le rs (k + 1)
   rw [hT, List.length_append] at hle
   have hN := HFN.out
   have HT : Hid (((flatR (rs.take (k + 1))).length : Int) = ((flatR (rs.take k)).length : Int) + (rs[k].ring.length : Int)) := by unfold Hid; rw [hT, List.length_append]; omega
   have b0 : (0 : Int) ≤ (k : Int) := by omega
   have b1 : (k : Int) < (rs.length : Int) := by omega
   have b9 : (rs.length : Int) ≤ 1000000 := by have := HLR.out; omega
   have w1 := wrap_in (n := ((flatR (rs.take k)).length : Int) + (rs[k].ring.length : Int)) (by omega) (by omega)
   have b2 : ¬ ((flatR (rs.take k)).length : Int) + (rs[k].ring.length : Int) < 0 := by omega
   clear hc0 hT hle hN HR HG
   generalize (flatR (rs.take k)).length = n1 at *
   generalize rs[k].ring = ps at *
   generalize rs[k].A = Ak at *
   generalize rs[k].cap = ck at *
   go_wp2_with fail
   go_roundg (rs.length - (k + 1))
   case measure => have := HGK.out; omega
   case rel => exact ⟨k + 1, by omega, rfl, by go_num, by rw [HT.out], rfl⟩
  ·obtain rfl : k = rs.length := by omega
   rw [List.take_length]
   go_wp2_with fail
   go_at_call 37
   refine (HG.out _).mono ?_
   rintro e w2 ⟨v0, rfl, HR0⟩
   clear HG HGK
   go_wp2_with fail
   go_loopg [6, 27] rs.length (fun g v i wx => ∃ k : Nat, k ≤ rs.length ∧ g = rs.length - k ∧ i = .int .i64 k ∧ Row w v (flatR (rs.take k)) wx)
   case atStart => exact ⟨0, Nat.zero_le _, rfl, rfl, HR0⟩
   case round =>
    clear HR0
    obtain ⟨k, hk, hgk, rfl, HV⟩ := hrel
    have HGK := Lib.hid hgk
    clear hgk
    by_cases hlt : k < rs.length
    ·have hw := HR.out _ HV.1
     obtain ⟨ad, rfl, -, hc0, -⟩ := hw.1.at kindRV.len hlt
     have d0 := hc0 _ (by decide) rfl
     rw [Nat.mul_one] at d0
     have hp := hw.2 rs[k] (List.getElem_mem hlt)
     have HP := Lib.hid hp
     have HNK := Lib.hid (HNL.out rs[k] (List.getElem_mem hlt))
     have hT := flatR_take hlt
     have hle := flatR_le rs (k + 1)
     rw [hT, List.length_append] at hle
     have HT := Lib.hid hT
     have HLE : Hid ((flatR (rs.take k)).length + rs[k].ring.length ≤ 1000000) := by unfold Hid; have := HFN.out; omega
     have b0 : (0 : Int) ≤ (k : Int) := by omega
     have b1 : (k : Int) < (rs.length : Int) := by omega
     have b9 : (rs.length : Int) ≤ 1000000 := by have := HLR.out; omega
     clear hc0 hT hle hw hp
     generalize flatR (rs.take k) = qs at *
     generalize rs[k].ring = ps at *
     generalize rs[k].A = Ak at *
     generalize rs[k].cap = ck at *
     have HVX := Lib.hid HV
     clear HV
     go_wp2_with (at_builtin; go_must (refine append_pts 23 Try.underlying23 HVX.out ps Ak ck HP.out HNK.out (by have := HLE.out; omega) rfl _ _ rfl (by rfl) (by rfl) ?_; rintro v8 w8 HR8))
     go_roundg (rs.length - (k + 1))
     case measure => have := HGK.out; omega
     case rel => exact ⟨k + 1, by omega, rfl, by go_num, by rw [HT.out]; exact HR8⟩
    ·obtain rfl : k = rs.length := by omega
     rw [List.take_length] at HV
     have HV9 := Lib.hid HV
     clear HV
     go_wp2
     go_ret
     exact ⟨_, rfl, HV9.out⟩
end Go.Proofs.Ytfjfmieadedjoaa
