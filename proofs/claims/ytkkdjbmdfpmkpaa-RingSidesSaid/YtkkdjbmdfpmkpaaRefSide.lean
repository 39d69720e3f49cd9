/- The contract of the document's own answer Side: where a point is. -/
import Derived.Test.YtkkdjbmdfpmkpaaRimP
namespace Go.Proofs.Ytkkdjbmdfpmkpaa
open Go.RowKit

/-- Whether the i-th edge cuts the way to the right of a point. -/
def rimF (ps : List (Int × Int)) (p : Int × Int) (i : Nat) : Bool := cutB (nx ps i) (nx ps (i + 1)) p
theorem side_on {ps : List (Int × Int)} {p : Int × Int} {i : Nat} (hi : i < ps.length) (h : OnS (nx ps i) (nx ps (i + 1)) p) : side ps p = 0 := by
  unfold side; rw [if_pos ⟨i, hi, h⟩]
theorem side_off {ps : List (Int × Int)} {p : Int × Int} (h : ∀ i, i < ps.length → ¬ OnS (nx ps i) (nx ps (i + 1)) p) : side ps p = if oddTo (rimF ps p) ps.length then 1 else -1 := by
  unfold side
  rw [if_neg (by rintro ⟨i, hi, ho⟩; exact h i hi ho)]
  rfl
def low (a b : Int × Int) : Int × Int := if b.2 < a.2 then b else a
def high (a b : Int × Int) : Int × Int := if b.2 < a.2 then a else b
theorem cutB_low (a b p : Int × Int) : cutB a b p = (decide ((low a b).2 ≤ p.2) && decide (p.2 < (high a b).2) && decide (0 < sgn (crs (low a b) (high a b) p))) := by
  unfold cutB low high
  split <;> (simp only [sgn_gt, Bool.decide_and, Bool.and_assoc])

section
variable {w W : World} {g0 g1 g2 : Nat} {x0 y0 x1 y1 x2 y2 : Value} {t0 t1 t2 : TypeId}
theorem Hold.rdf3 (h : Hold w [(g2, #[x2, y2], t2), (g1, #[x1, y1], t1), (g0, #[x0, y0], t0)] W) : W.frozen? ⟨g1, 0, none⟩ = false ∧ W.frozen? ⟨g1, 1, none⟩ = false ∧ W.frozen? ⟨g2, 0, none⟩ = false ∧ W.frozen? ⟨g2, 1, none⟩ = false :=
  ⟨(h.fz (.tail _ (.head _))).1, (h.fz (.tail _ (.head _))).2, (h.fz (.head _)).1, (h.fz (.head _)).2⟩
end

set_option maxRecDepth 100000 in
set_option maxHeartbeats 4000000 in
theorem ref_side (ps : List (Int × Int)) (A : Option Addr) (cap : Nat) (p : Int × Int) (hn : ps.length ≤ maxLen) (hg : gdL ps = true) (hp : Gd p) (w : World) (hr : Pts w w.heap.size A ps) :
    Calls Try.prog 17 #[.slice A ps.length cap, .agg #[.int .i64 p.1, .int .i64 p.2]] w fun e w' => e = .returned (.int .i64 (side ps p)) ∧ Below w.heap.size w w' := by
  unfold maxLen at hn
  have HG := Lib.hid hg
  have HPp := Lib.hid hp
  clear hg hp
  have HQ := (Hold.refl w).new #[.int .i64 p.1, .int .i64 p.2] 35
  go_enter Try.func17, Try.ntmps17
  go_wp2_with fail
  generalize (World.alloc _ _) = W1 at HQ ⊢
  obtain ⟨g3, hg3⟩ : ∃ g, w.heap.size = g := ⟨_, rfl⟩
  rw [hg3] at HQ ⊢
  have HG3 := Lib.hid hg3
  clear hg3
  go_loopg [5, 6] ps.length (fun n o i wr => ∃ k : Nat, k ≤ ps.length ∧ n = ps.length - k ∧ i = .int .i64 k ∧ o = .bool (oddTo (rimF ps p) k) ∧ (∀ i, i < k → ¬ OnS (nx ps i) (nx ps (i + 1)) p) ∧ Hold w [(g3, #[.int .i64 p.1, .int .i64 p.2], 35)] wr)
  case atStart => exact ⟨0, Nat.zero_le _, rfl, rfl, rfl, fun i hi => absurd hi (by omega), HQ⟩
  case round =>
    obtain ⟨k, hk, hgk, rfl, rfl, hoff, HB⟩ := hrel
    have hgk' := Lib.hid hgk
    have HO := Lib.hid hoff
    clear hgk hoff HQ
    by_cases hlt : k < ps.length
    · obtain ⟨j, hj, e1, e2, e3⟩ := next_place hlt
      obtain ⟨ad, rfl, hadb, d0, d1⟩ := hr.nx HB.1 hlt (Nat.mod_eq_of_lt hlt)
      obtain ⟨ad', e', -, d2, d3⟩ := hr.nx (HB.1.alloc HB.1.size (Obj.cells #[.int .i64 (nx ps k).1, .int .i64 (nx ps k).2] 35)) hj e1
      obtain rfl := Option.some.inj e'
      have ga := nx_gd HG.out (by omega) k
      have gb := nx_gd HG.out (by omega) (k + 1)
      have HON := Lib.hid (fun W => ref_on _ _ p ga gb HPp.out W)
      have b0 : (0 : Int) ≤ (k : Int) := by omega
      have b1 : (k : Int) < (ps.length : Int) := by omega
      have b2 : (0 : Int) < (ps.length : Int) := by omega
      have b4 : (0 : Int) ≤ (j : Int) := by omega
      have b5 : (j : Int) < (ps.length : Int) := by omega
      have HE := Lib.hid e1
      have hf : rimF ps p k = cutB (nx ps k) (nx ps (k + 1)) p := rfl
      have HF := Lib.hid hf
      have HNEXT : Hid (¬ OnS (nx ps k) (nx ps (k + 1)) p → ∀ i, i < k + 1 → ¬ OnS (nx ps i) (nx ps (i + 1)) p) := fun hno i hi => by
        by_cases e : i = k
        · subst e; exact hno
        · exact HO.out i (by omega)
      have HD : Hid (OnS (nx ps k) (nx ps (k + 1)) p → side ps p = 0) := side_on hlt
      have HGA := Lib.hid ga
      have HGB := Lib.hid gb
      clear e' e1 hf ga gb hr
      generalize nx ps k = a at *
      generalize nx ps (k + 1) = b at *
      obtain ⟨p0, p1⟩ := ((HB.alloc (Obj.cells #[.int .i64 a.1, .int .i64 a.2] 35)).alloc (Obj.cells #[.int .i64 b.1, .int .i64 b.2] 35)).pt (.head _)
      go_wp2_with fail
      go_at_call 23
      refine (HON.out _).mono ?_
      rintro e w1 ⟨rfl, hB⟩
      have HL := ((HB.new #[.int .i64 a.1, .int .i64 a.2] 35).new' #[.int .i64 b.1, .int .i64 b.2] 35 (n := wr.heap.size + 1) (by simp only [World.size_alloc])).on hB
      generalize wr.heap.size + 1 = g8 at HL ⊢
      generalize wr.heap.size = g7 at HL ⊢
      clear hB HB d0 d1 d2 d3 p0 p1 HON
      cases h1 : onB a b p
      · have hno : ¬ OnS a b p := fun e => by rw [onB_iff.2 e] at h1; cases h1
        have HNO := Lib.hid hno
        clear hno HD
        obtain ⟨f0, f1, f2, f3, f4, f5⟩ := HL.rd3
        go_upto_if 36 with (fail)
        go_cut [9] (fun s9 wx => Hold w [(g8, #[.int .i64 (high a b).1, .int .i64 (high a b).2], 35), (g7, #[.int .i64 (low a b).1, .int .i64 (low a b).2], 35), (g3, #[.int .i64 p.1, .int .i64 p.2], 35)] wx)
        case first =>
          by_cases hs : b.2 < a.2
          · have el : Hid (low a b = b ∧ high a b = a) := by unfold Hid low high; rw [if_pos hs, if_pos hs]; exact ⟨rfl, rfl⟩
            have H9 := HL.new #[.int .i64 a.1, .int .i64 a.2] 35
            have H10 := Hold.put (L1 := [_, _]) (Hold.put (L1 := [_, _]) H9 0 (.int .i64 b.1)) 1 (.int .i64 b.2)
            have H11 := Hold.put (L1 := [_]) (Hold.put (L1 := [_]) H10 0 (.int .i64 a.1)) 1 (.int .i64 a.2)
            obtain ⟨i0, i1⟩ := H9.pt (.tail _ (.head _))
            obtain ⟨i2, i3⟩ := H9.pt (.tail _ (.tail _ (.head _)))
            obtain ⟨i4, i5⟩ := H9.fz (.tail _ (.tail _ (.head _)))
            obtain ⟨i6, i7⟩ := H10.pt (.head _)
            obtain ⟨i8, i9⟩ := H10.pt (.tail _ (.head _))
            obtain ⟨j0, j1⟩ := H10.fz (.tail _ (.head _))
            have HK := Lib.hid H11.tail
            clear H9 H10 H11
            go_wp2_with fail
            go_meet
            rw [el.out.1, el.out.2]
            exact HK.out
          · have el : Hid (low a b = a ∧ high a b = b) := by unfold Hid low high; rw [if_neg hs, if_neg hs]; exact ⟨rfl, rfl⟩
            go_wp2_with fail
            go_meet
            rw [el.out.1, el.out.2]
            exact HL
        case rest =>
          have HLn := hcut
          clear HL hcut f0 f1 f2 f3 f4 f5
          have HC := Lib.hid (cutB_low a b p)
          have hgl : Gd (low a b) := by unfold low; split <;> first | exact HGA.out | exact HGB.out
          have hgh : Gd (high a b) := by unfold high; split <;> first | exact HGA.out | exact HGB.out
          have HT := Lib.hid (fun W => ref_turn _ _ p hgl hgh HPp.out W)
          have HNX := Lib.hid (HNEXT.out HNO.out)
          clear hgl hgh HO HNO HGA HGB HNEXT
          generalize low a b = lo at *
          generalize high a b = hi at *
          obtain ⟨f0, f1, f2, f3, f4, f5⟩ := HLn.rd3
          have hstep : ∀ c, rimF ps p k = c → oddTo (rimF ps p) (k + 1) = (oddTo (rimF ps p) k ^^ c) := fun c hc => by rw [oddTo, hc]
          have HST := Lib.hid hstep
          clear hstep
          by_cases k1 : lo.2 ≤ p.2
          · by_cases k2 : p.2 < hi.2
            · by_cases k3 : 0 < sgn (crs lo hi p)
              · have hc : rimF ps p k = true := by rw [HF.out, HC.out, decide_eq_true k1, decide_eq_true k2, decide_eq_true k3]; rfl
                have HE2 := Lib.hid ((HST.out _ hc).trans (Bool.xor_true _))
                clear hc HST HF HC
                go_wp2_with fail
                go_at_call 38
                refine (HT.out _).mono ?_
                rintro e w2 ⟨rfl, hB⟩
                replace HLn := HLn.on hB
                clear hB f0 f1 f2 f3 f4 f5 HT
                go_wp2_with fail
                go_roundg (ps.length - (k + 1))
                case measure => have := hgk'.out; omega
                case rel => exact ⟨k + 1, by omega, rfl, by go_num, by rw [HE2.out], HNX.out, HLn.tail.tail⟩
              · have hc : rimF ps p k = false := by rw [HF.out, HC.out, decide_eq_false k3, Bool.and_false]
                have HE2 := Lib.hid ((HST.out _ hc).trans (Bool.xor_false _))
                clear hc HST HF HC
                go_wp2_with fail
                go_at_call 38
                refine (HT.out _).mono ?_
                rintro e w2 ⟨rfl, hB⟩
                replace HLn := HLn.on hB
                clear hB f0 f1 f2 f3 f4 f5 HT
                go_wp2_with fail
                go_roundg (ps.length - (k + 1))
                case measure => have := hgk'.out; omega
                case rel => exact ⟨k + 1, by omega, rfl, by go_num, by rw [HE2.out], HNX.out, HLn.tail.tail⟩
            · have hc : rimF ps p k = false := by rw [HF.out, HC.out, decide_eq_false k2, Bool.and_false]; rfl
              have HE2 := Lib.hid ((HST.out _ hc).trans (Bool.xor_false _))
              clear hc HST HF HC
              go_wp2_with fail
              go_roundg (ps.length - (k + 1))
              case measure => have := hgk'.out; omega
              case rel => exact ⟨k + 1, by omega, rfl, by go_num, by rw [HE2.out], HNX.out, HLn.tail.tail⟩
          · have hc : rimF ps p k = false := by rw [HF.out, HC.out, decide_eq_false k1]; rfl
            have HE2 := Lib.hid ((HST.out _ hc).trans (Bool.xor_false _))
            clear hc HST HF HC
            go_wp2_with fail
            go_roundg (ps.length - (k + 1))
            case measure => have := hgk'.out; omega
            case rel => exact ⟨k + 1, by omega, rfl, by go_num, by rw [HE2.out], HNX.out, HLn.tail.tail⟩
      · have HJ : Hid (side ps p = 0) := HD.out (onB_iff.1 h1)
        clear HD
        go_wp2
        go_ret
        rw [HJ.out]
        exact ⟨rfl, HL.1⟩
    · obtain rfl : k = ps.length := by omega
      have HS : Hid (side ps p = if oddTo (rimF ps p) ps.length then 1 else -1) := side_off HO.out
      clear hr HO
      cases ho : oddTo (rimF ps p) ps.length
      · have HJ : Hid (side ps p = -1) := by unfold Hid; rw [HS.out, ho]; rfl
        clear HS
        go_wp2
        go_ret
        rw [HJ.out]
        exact ⟨rfl, HB.1⟩
      · have HJ : Hid (side ps p = 1) := by unfold Hid; rw [HS.out, ho]; rfl
        clear HS
        go_wp2
        go_ret
        rw [HJ.out]
        exact ⟨rfl, HB.1⟩
end Go.Proofs.Ytkkdjbmdfpmkpaa
