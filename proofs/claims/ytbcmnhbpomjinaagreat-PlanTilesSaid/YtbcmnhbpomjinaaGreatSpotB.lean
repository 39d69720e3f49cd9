/- The program's spotAt and side. -/
import Derived.Test.YtbcmnhbpomjinaaGreatCoverM
import Derived.Test.YtbcmnhbpomjinaaGreatPgB
import Derived.Test.YtbcmnhbpomjinaaGreatMaps
namespace Go.Proofs.YtbcmnhbpomjinaaGreat
open Go.RowKit

/-- Which error a spot has. -/
def spE (x y m : Int) : Int := if m < 1 ∨ 1024 < m then 1 else if min x y < -(1073741824 * m) ∨ 1073741824 * m < max x y then 3 else 0
theorem spE_arg {x y m : Int} (h : m < 1 ∨ 1024 < m) : spE x y m = 1 := by unfold spE; rw [if_pos h]
theorem spE_far {x y m : Int} (h : ¬ (m < 1 ∨ 1024 < m)) (h2 : min x y < -(1073741824 * m) ∨ 1073741824 * m < max x y) : spE x y m = 3 := by unfold spE; rw [if_neg h, if_pos h2]
theorem spE_ok {x y m : Int} (h : ¬ (m < 1 ∨ 1024 < m)) (h2 : ¬ (min x y < -(1073741824 * m) ∨ 1073741824 * m < max x y)) : spE x y m = 0 := by unfold spE; rw [if_neg h, if_neg h2]
theorem spE_iff {x y m : Int} : spE x y m = 0 ↔ SpOk x y m := by
  unfold spE SpOk
  constructor
  · intro h
    split at h
    · cases h
    · split at h
      · cases h
      · omega
  · intro h
    rw [if_neg (by omega), if_neg (by omega)]
/-- What spotAt answers. -/
def SpotAt (x y m : Int) (e : Ending) : Prop := (spE x y m ≠ 0 ∧ e = .returned (.tuple #[.agg #[.int .i64 0, .int .i64 0, .int .i64 0], .int .i64 (spE x y m)])) ∨ (spE x y m = 0 ∧ e = .returned (.tuple #[.agg #[.int .i64 x, .int .i64 y, .int .i64 m], .int .i64 0]))
set_option maxRecDepth 100000 in
set_option maxHeartbeats 1000000 in
theorem spotAt_any (x y m : Int) (w : World) :
    Calls Tryz.prog 56 #[.int .i64 x, .int .i64 y, .int .i64 m] w fun e w' => SpotAt x y m e ∧ Below w.heap.size w w' := by
  have m1 : (if y < x then y else x) = min x y := by split <;> omega
  have m2 : (if x < y then y else x) = max x y := by split <;> omega
  have HQ := (Hold.refl w).new #[.int .i64 0, .int .i64 0, .int .i64 0] 91
  by_cases h1 : m < 1
  · have HE : Hid (spE x y m = 1) := spE_arg (.inl h1)
    go_enter Tryz.func56, Tryz.ntmps56
    go_upto_region 1 with (fail)
    generalize (World.alloc _ _) = W1 at HQ ⊢
    generalize w.heap.size = g0 at HQ ⊢
    obtain ⟨z0, z1, z2⟩ : W1.frozen? ⟨g0, 0, none⟩ = false ∧ W1.frozen? ⟨g0, 1, none⟩ = false ∧ W1.frozen? ⟨g0, 2, none⟩ = false := ⟨HQ.frozen (.head _) 0, HQ.frozen (.head _) 1, HQ.frozen (.head _) 2⟩
    have c0 := HQ.cell (.head _) 0
    have c1 := HQ.cell (.head _) 1
    have c2 := HQ.cell (.head _) 2
    simp only [List.getElem?_toArray, List.getElem?_cons_zero, List.getElem?_cons_succ] at c0 c1 c2
    have HQX := Lib.hid HQ
    clear HQ m1 m2
    go_wp2
    have hs := ((HQX.out.set 0 (.int .i64 0)).set 1 (.int .i64 0)).set 2 (.int .i64 0)
    have n0 := hs.cell (.head _) 0
    have n1 := hs.cell (.head _) 1
    have n2 := hs.cell (.head _) 2
    simp at n0 n1 n2
    refine bodyPost_ret (v := .tuple #[.agg #[.int .i64 0, .int .i64 0, .int .i64 0], .int .i64 1]) ?_ rfl ⟨.inl ⟨by rw [HE.out]; decide, by rw [HE.out]⟩, hs.1⟩
    simp [results, Tryz.results56, go_sem, n0, n1, n2]
  · by_cases h2 : 1024 < m
    · have HE : Hid (spE x y m = 1) := spE_arg (.inr h2)
      go_enter Tryz.func56, Tryz.ntmps56
      go_upto_region 1 with (fail)
      generalize (World.alloc _ _) = W1 at HQ ⊢
      generalize w.heap.size = g0 at HQ ⊢
      obtain ⟨z0, z1, z2⟩ : W1.frozen? ⟨g0, 0, none⟩ = false ∧ W1.frozen? ⟨g0, 1, none⟩ = false ∧ W1.frozen? ⟨g0, 2, none⟩ = false := ⟨HQ.frozen (.head _) 0, HQ.frozen (.head _) 1, HQ.frozen (.head _) 2⟩
      have c0 := HQ.cell (.head _) 0
      have c1 := HQ.cell (.head _) 1
      have c2 := HQ.cell (.head _) 2
      simp only [List.getElem?_toArray, List.getElem?_cons_zero, List.getElem?_cons_succ] at c0 c1 c2
      have HQX := Lib.hid HQ
      clear HQ m1 m2
      go_wp2
      have hs := ((HQX.out.set 0 (.int .i64 0)).set 1 (.int .i64 0)).set 2 (.int .i64 0)
      have n0 := hs.cell (.head _) 0
      have n1 := hs.cell (.head _) 1
      have n2 := hs.cell (.head _) 2
      simp at n0 n1 n2
      refine bodyPost_ret (v := .tuple #[.agg #[.int .i64 0, .int .i64 0, .int .i64 0], .int .i64 1]) ?_ rfl ⟨.inl ⟨by rw [HE.out]; decide, by rw [HE.out]⟩, hs.1⟩
      simp [results, Tryz.results56, go_sem, n0, n1, n2]
    · have HF := Lib.hid (fun h => spE_far (x := x) (y := y) (m := m) (by omega) h)
      have HO := Lib.hid (fun h => spE_ok (x := x) (y := y) (m := m) (by omega) h)
      have w1 := wrap_in (n := 1073741824 * m) (by omega) (by omega)
      have w2 := wrap_in (n := -(1073741824 * m)) (by omega) (by omega)
      generalize min x y = lo at *
      generalize max x y = hi at *
      go_enter Tryz.func56, Tryz.ntmps56
      go_upto_region 1 with (fail)
      generalize (World.alloc _ _) = W1 at HQ ⊢
      generalize w.heap.size = g0 at HQ ⊢
      obtain ⟨z0, z1, z2⟩ : W1.frozen? ⟨g0, 0, none⟩ = false ∧ W1.frozen? ⟨g0, 1, none⟩ = false ∧ W1.frozen? ⟨g0, 2, none⟩ = false := ⟨HQ.frozen (.head _) 0, HQ.frozen (.head _) 1, HQ.frozen (.head _) 2⟩
      have c0 := HQ.cell (.head _) 0
      have c1 := HQ.cell (.head _) 1
      have c2 := HQ.cell (.head _) 2
      simp only [List.getElem?_toArray, List.getElem?_cons_zero, List.getElem?_cons_succ] at c0 c1 c2
      have HQX := Lib.hid HQ
      clear HQ
      obtain ⟨lim, hlim⟩ : ∃ k, 1073741824 * m = k := ⟨_, rfl⟩
      rw [hlim] at w1 w2 HF HO
      have HLM := Lib.hid hlim
      by_cases h3 : lo < -lim
      · have HE : Hid (spE x y m = 3) := HF.out (.inl h3)
        clear HF HO
        go_wp2
        have hs := ((HQX.out.set 0 (.int .i64 0)).set 1 (.int .i64 0)).set 2 (.int .i64 0)
        have n0 := hs.cell (.head _) 0
        have n1 := hs.cell (.head _) 1
        have n2 := hs.cell (.head _) 2
        simp at n0 n1 n2
        refine bodyPost_ret (v := .tuple #[.agg #[.int .i64 0, .int .i64 0, .int .i64 0], .int .i64 3]) ?_ rfl ⟨.inl ⟨by rw [HE.out]; decide, by rw [HE.out]⟩, hs.1⟩
        simp [results, Tryz.results56, go_sem, n0, n1, n2]
      · by_cases h4 : lim < hi
        · have HE : Hid (spE x y m = 3) := HF.out (.inr h4)
          clear HF HO
          go_wp2
          have hs := ((HQX.out.set 0 (.int .i64 0)).set 1 (.int .i64 0)).set 2 (.int .i64 0)
          have n0 := hs.cell (.head _) 0
          have n1 := hs.cell (.head _) 1
          have n2 := hs.cell (.head _) 2
          simp at n0 n1 n2
          refine bodyPost_ret (v := .tuple #[.agg #[.int .i64 0, .int .i64 0, .int .i64 0], .int .i64 3]) ?_ rfl ⟨.inl ⟨by rw [HE.out]; decide, by rw [HE.out]⟩, hs.1⟩
          simp [results, Tryz.results56, go_sem, n0, n1, n2]
        · have HE : Hid (spE x y m = 0) := HO.out (by omega)
          clear HF HO
          go_wp2
          have hs := ((HQX.out.set 0 (.int .i64 x)).set 1 (.int .i64 y)).set 2 (.int .i64 m)
          have n0 := hs.cell (.head _) 0
          have n1 := hs.cell (.head _) 1
          have n2 := hs.cell (.head _) 2
          simp at n0 n1 n2
          refine bodyPost_ret (v := .tuple #[.agg #[.int .i64 x, .int .i64 y, .int .i64 m], .int .i64 0]) ?_ rfl ⟨.inr ⟨HE.out, rfl⟩, hs.1⟩
          simp [results, Tryz.results56, go_sem, n0, n1, n2]

set_option maxRecDepth 100000 in
set_option maxHeartbeats 2000000 in
theorem spside_any (x y m : Int) (ps : List (Int × Int)) (A : Option Addr) (cap : Nat) (hs : SpOk x y m) (hn : ps.length ≤ 1000000) (hg : ∀ e ∈ edg ps, Gd e.1 ∧ Gd e.2) (w : World) (hr : Pts w w.heap.size A ps) :
    Calls Tryz.prog 57 #[.agg #[.int .i64 x, .int .i64 y, .int .i64 m], .slice A ps.length cap] w fun e w' => e = .returned (.int .i64 (spS ps x y m)) ∧ Below w.heap.size w w' := by
  have HE := Lib.hid (fun W (h : Below w.heap.size w W) => edges_any ps A cap hn W (hr.on h))
  have HON := Lib.hid (fun e (he : e ∈ edg ps) W => spon_any x y m e.1 e.2 hs (hg e he).1 (hg e he).2 W)
  have HPA := Lib.hid (fun e (he : e ∈ edg ps) W => spP_any x y m e.1 e.2 hs (hg e he).1 (hg e he).2 W)
  have HYES := Lib.hid (fun e (he : e ∈ edg ps) h => spS_on (x := x) (y := y) (m := m) he h)
  have HOFF := Lib.hid (fun h => spS_off (r := ps) (x := x) (y := y) (m := m) h)
  have HLM := Lib.hid (fun l => sumP_lim x y m l)
  have HEL : Hid ((edg ps).length ≤ 1000000) := by unfold Hid; rw [edg_len]; exact hn
  have HQ := (Hold.refl w).new #[.int .i64 x, .int .i64 y, .int .i64 m] 91
  clear hr hs hn hg
  generalize spS ps x y m = res at *
  go_enter Tryz.func57, Tryz.ntmps57
  go_upto_region 2 with (fail)
  generalize (World.alloc _ _) = W1 at HQ ⊢
  obtain ⟨g0, hg0⟩ : ∃ g, w.heap.size = g := ⟨_, rfl⟩
  have HQ0 := Lib.hid HQ
  rw [hg0] at HQ ⊢
  have HG0 := Lib.hid hg0
  have HQX := Lib.hid HQ
  clear HQ hg0
  go_wp2_with fail
  go_at_call 89
  refine (HE.out _ HQ0.out.1).mono ?_
  rintro e w1 ⟨v, rfl, HV⟩
  obtain ⟨A1, c1, rfl, HI, HNO⟩ := HV.items
  have hq1 := HQX.out.on HV.1
  have HQ1 := Lib.hid hq1
  have HI1 := Lib.hid HI
  have HB0 := Below.refl w1.heap.size w1
  clear HV HI HNO HE hq1
  generalize edg ps = es at *
  go_wp2_with fail
  go_loopg [5, 11] es.length (fun g n i wr => ∃ k : Nat, k ≤ es.length ∧ g = es.length - k ∧ i = .int .i64 k ∧ n = .int .i64 (sumL (fun e => spP e.1 e.2 x y m) (es.take k)) ∧ (∀ e ∈ es.take k, spOn e.1 e.2 x y m = false) ∧ Below w1.heap.size w1 wr)
  case atStart => exact ⟨0, Nat.zero_le _, rfl, rfl, rfl, fun e h => by simp at h, HB0⟩
  case round =>
    clear HB0
    obtain ⟨k, hk, hgk, rfl, rfl, hno, HB⟩ := hrel
    have HGK := Lib.hid hgk
    have HNO := Lib.hid hno
    clear hgk hno
    have hq := HQ1.out.on HB
    by_cases hlt : k < es.length
    · obtain ⟨ad, rfl, hadb, hc0, hc⟩ := (HI1.out.on HB).at kindG.len hlt
      have d0 := hc0 _ (by decide) rfl
      have d1 := hc 1 _ (by decide) (by decide) rfl
      have d2 := hc 2 _ (by decide) (by decide) rfl
      have d3 := hc 3 _ (by decide) (by decide) rfl
      have HM : Hid (es[k] ∈ es) := List.getElem_mem hlt
      have hT : es.take (k + 1) = es.take k ++ [es[k]] := List.take_succ_eq_append_getElem hlt
      have HON1 := Lib.hid (HON.out _ HM.out)
      have HPA1 := Lib.hid (HPA.out _ HM.out)
      have HY1 := Lib.hid (HYES.out _ HM.out)
      have HS1 : Hid (sumL (fun e => spP e.1 e.2 x y m) (es.take (k + 1)) = sumL (fun e => spP e.1 e.2 x y m) (es.take k) + spP es[k].1 es[k].2 x y m) := by unfold Hid; rw [hT, sumL_snoc]
      have HN1 : Hid (spOn es[k].1 es[k].2 x y m = false → ∀ e ∈ es.take (k + 1), spOn e.1 e.2 x y m = false) := fun h e he => by
        rw [hT, List.mem_append, List.mem_singleton] at he
        rcases he with he | rfl
        · exact HNO.out e he
        · exact h
      have hl1 := HLM.out (es.take k)
      have hl2 := spP_lim es[k].1 es[k].2 x y m
      have hl3 : (es.take k).length ≤ 1000000 := by rw [List.length_take]; have := HEL.out; omega
      have w1' := wrap_in (n := sumL (fun e => spP e.1 e.2 x y m) (es.take k) + spP es[k].1 es[k].2 x y m) (by omega) (by omega)
      have b0 : (0 : Int) ≤ (k : Int) := by omega
      have b1 : (k : Int) < (es.length : Int) := by omega
      have b4 : (es.length : Int) ≤ 1000000 := by have := HEL.out; omega
      clear hc0 hc hT HON HPA HYES hl1 hl2 hl3 HNO
      generalize sumL (fun e => spP e.1 e.2 x y m) (es.take k) = sm at *
      generalize es[k] = a at *
      generalize spP a.1 a.2 x y m = pa at *
      go_upto_region 5 with (fail)
      have hq2 := hq.new #[.int .i64 a.1.1, .int .i64 a.1.2, .int .i64 a.2.1, .int .i64 a.2.2] 30
      have hB2 := HB.alloc HB.size (Obj.cells #[.int .i64 a.1.1, .int .i64 a.1.2, .int .i64 a.2.1, .int .i64 a.2.2] 30 (0, 0))
      clear d0 d1 d2 d3 hq HB hadb
      generalize (World.alloc _ _) = W2 at hq2 hB2 ⊢
      generalize wr.heap.size = g7 at hq2 ⊢
      obtain ⟨⟨s0, s1, s2⟩, e0, e1, e2, e3⟩ := hq2.spot
      have HQ2 := Lib.hid hq2
      have HB2 := Lib.hid hB2
      clear hq2 hB2
      cases hon : spOn a.1 a.2 x y m
      · rw [hon] at HON1
        have HN2 := Lib.hid (HN1.out hon)
        clear HY1 HN1 hon
        go_wp2_with fail
        go_at_call 95
        refine (HON1.out _).mono ?_
        rintro e W3 ⟨rfl, hB⟩
        have hq3 := HQ2.out.on hB
        have hB3 := HB2.out.trans (hB.mono HB2.out.size)
        clear s0 s1 s2 e0 e1 e2 e3 hB
        obtain ⟨⟨s0, s1, s2⟩, e0, e1, e2, e3⟩ := hq3.spot
        have HB3 := Lib.hid hB3
        clear hq3 hB3
        go_wp2_with (go_at_call 96; go_must (refine (HPA1.out _).mono ?_; rintro e' W4 ⟨rfl, hB⟩; have HB4 := Lib.hid (HB3.out.trans (hB.mono HB3.out.size)); clear hB))
        go_roundg (es.length - (k + 1))
        case measure => have := HGK.out; omega
        case rel => exact ⟨k + 1, by omega, rfl, by go_num, by rw [HS1.out], HN2.out, HB4.out⟩
      · rw [hon] at HON1
        have HR := Lib.hid (HY1.out hon)
        clear HY1 HN1 hon HPA1 HS1
        go_wp2_with (go_at_call 95; go_must (refine (HON1.out _).mono ?_; rintro e' W3 ⟨rfl, hB⟩; have HB3 := Lib.hid (HQ2.out.on hB).1; clear hB))
        go_ret
        rw [HR.out]
        exact ⟨rfl, HB3.out⟩
    · obtain rfl : k = es.length := by omega
      rw [List.take_length] at *
      have HR := Lib.hid (HOFF.out HNO.out)
      have HB9 := Lib.hid hq.1
      clear hq HB HNO HON HPA HYES HOFF
      generalize sumL (fun e => spP e.1 e.2 x y m) es = sm at *
      by_cases h1 : sm = 1
      · have HR1 : Hid (res = 1) := by unfold Hid; rw [HR.out, if_pos h1]
        have e1 : (sm == 1) = true := by simpa using h1
        clear HR h1
        go_wp2
        go_ret
        rw [HR1.out]
        exact ⟨rfl, HB9.out⟩
      · have HR1 : Hid (res = -1) := by unfold Hid; rw [HR.out, if_neg h1]
        have e1 : (sm == 1) = false := by simpa using h1
        clear HR h1
        go_wp2
        go_ret
        rw [HR1.out]
        exact ⟨rfl, HB9.out⟩
end Go.Proofs.YtbcmnhbpomjinaaGreat
