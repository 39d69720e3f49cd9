/- The document's own Cover: where a spot is beside a ring. -/
import Derived.Test.YtbcmnhbpomjinaaGreatCoverM
import Derived.Test.YtbcmnhbpomjinaaGreatRefSide
import Derived.Test.YtbcmnhbpomjinaaGreatRefTell
namespace Go.Proofs.YtbcmnhbpomjinaaGreat
open Go.RowKit

theorem low_mulp {m : Int} (hm : 1 ≤ m) (a b : Int × Int) : low (mulp m a) (mulp m b) = mulp m (low a b) ∧ high (mulp m a) (mulp m b) = mulp m (high a b) := by
  have h : (mulp m b).2 < (mulp m a).2 ↔ b.2 < a.2 := mul_lt_iff (by omega)
  unfold low high
  by_cases h1 : b.2 < a.2
  · rw [if_pos h1, if_pos h1, if_pos (h.2 h1), if_pos (h.2 h1)]; exact ⟨rfl, rfl⟩
  · rw [if_neg h1, if_neg h1, if_neg (fun h2 => h1 (h.1 h2)), if_neg (fun h2 => h1 (h.1 h2))]; exact ⟨rfl, rfl⟩
theorem low_high (a b : Int × Int) : (low a b).2 ≤ (high a b).2 := by unfold low high; split <;> omega
/-- Whether the document finds a spot on an edge, from its lower end to its higher one. -/
def cvB (lo hi : Int × Int) (x y m : Int) : Bool := (sgn (crs (mulp m lo) (mulp m hi) (x, y)) == 0) && decide (min lo.1 hi.1 * m ≤ x) && decide (x ≤ max lo.1 hi.1 * m) && decide (lo.2 * m ≤ y) && decide (y ≤ hi.2 * m)
theorem cvB_on {lo hi : Int × Int} {x y m : Int} (hm : 1 ≤ m) (h : lo.2 ≤ hi.2) : cvB lo hi x y m = true ↔ OnS (mulp m lo) (mulp m hi) (x, y) := by
  unfold cvB OnS btw mulp
  simp only [Bool.and_eq_true, decide_eq_true_eq, beq_iff_eq, sgn_zero]
  rw [Int.mul_comm (min lo.1 hi.1), Int.mul_comm (max lo.1 hi.1), Int.mul_comm lo.2, Int.mul_comm hi.2]
  have h2 : m * lo.2 ≤ m * hi.2 := (mul_le_iff (by omega)).2 h
  rcases Int.le_total lo.1 hi.1 with h1 | h1
  · have h3 : m * lo.1 ≤ m * hi.1 := (mul_le_iff (by omega)).2 h1
    rw [show min lo.1 hi.1 = lo.1 by omega, show max lo.1 hi.1 = hi.1 by omega]
    generalize m * lo.1 = p at *
    generalize m * hi.1 = q at *
    generalize m * lo.2 = r at *
    generalize m * hi.2 = s at *
    constructor
    · rintro ⟨⟨⟨⟨a, b⟩, c⟩, d⟩, e⟩
      exact ⟨a, .inl ⟨b, c⟩, .inl ⟨d, e⟩⟩
    · rintro ⟨a, b, c⟩
      exact ⟨⟨⟨⟨a, by omega⟩, by omega⟩, by omega⟩, by omega⟩
  · have h3 : m * hi.1 ≤ m * lo.1 := (mul_le_iff (by omega)).2 h1
    rw [show min lo.1 hi.1 = hi.1 by omega, show max lo.1 hi.1 = lo.1 by omega]
    generalize m * lo.1 = p at *
    generalize m * hi.1 = q at *
    generalize m * lo.2 = r at *
    generalize m * hi.2 = s at *
    constructor
    · rintro ⟨⟨⟨⟨a, b⟩, c⟩, d⟩, e⟩
      exact ⟨a, .inr ⟨b, c⟩, .inl ⟨d, e⟩⟩
    · rintro ⟨a, b, c⟩
      exact ⟨⟨⟨⟨a, by omega⟩, by omega⟩, by omega⟩, by omega⟩
theorem cvB_iff {a b : Int × Int} {x y m : Int} (hm : 1 ≤ m) : cvB (low a b) (high a b) x y m = true ↔ OnS (mulp m a) (mulp m b) (x, y) := by
  rw [cvB_on hm (low_high a b)]
  unfold low high
  split
  · exact on_turn
  · exact Iff.rfl
theorem cut_cov {a b : Int × Int} {x y m : Int} (hm : 1 ≤ m) : cutB (mulp m a) (mulp m b) (x, y) = (decide ((low a b).2 * m ≤ y) && decide (y < (high a b).2 * m) && decide (0 < sgn (crs (mulp m (low a b)) (mulp m (high a b)) (x, y)))) := by
  rw [cutB_low, (low_mulp hm a b).1, (low_mulp hm a b).2, Int.mul_comm (low a b).2, Int.mul_comm (high a b).2]
  rfl
theorem sgn_cmp {l r : Int} (hl : InR l) (hr : InR r) : cmp (hiOf l) (loOf l) (hiOf r) (loOf r) = sgn (l - r) := by
  rw [cmp_val (wf_of hl) (wf_of hr), val_of, val_of]
  unfold sgn
  split <;> split <;> (try split) <;> omega
theorem cov_crs (a b : Int × Int) (x y m : Int) : ((b.1 - a.1) * m) * (y - a.2 * m) - ((b.2 - a.2) * m) * (x - a.1 * m) = crs (mulp m a) (mulp m b) (x, y) := by
  unfold crs mulp
  simp only
  grind
section
variable {w W : World} {g0 g1 : Nat} {x0 y0 x1 y1 : Value} {t0 t1 : TypeId} {L : List (Nat × Array Value × TypeId)}
theorem Hold.duo (h : Hold w ((g1, #[x1, y1], t1) :: (g0, #[x0, y0], t0) :: L) W) : W.cell? ⟨g1, 0, none⟩ = some x1 ∧ W.cell? ⟨g1, 1, none⟩ = some y1 ∧ W.cell? ⟨g0, 0, none⟩ = some x0 ∧ W.cell? ⟨g0, 1, none⟩ = some y0 :=
  ⟨(h.pt (.head _)).1, (h.pt (.head _)).2, (h.pt (.tail _ (.head _))).1, (h.pt (.tail _ (.head _))).2⟩
end
set_option maxRecDepth 100000 in
set_option maxHeartbeats 8000000 in
theorem ref_cover (ps : List (Int × Int)) (A : Option Addr) (cap : Nat) (x y m : Int) (hs : SpOk x y m) (hn : ps.length ≤ maxLen) (hg : gdL ps = true) (w : World) (hr : Pts w w.heap.size A ps) :
    Calls Tryz.prog 28 #[.slice A ps.length cap, .int .i64 x, .int .i64 y, .int .i64 m] w fun e w' => e = .returned (.int .i64 (side (mulR m ps) (x, y))) ∧ Below w.heap.size w w' := by
  unfold maxLen at hn
  have HG := Lib.hid hg
  have HS := Lib.hid hs
  have HM1 : Hid (1 ≤ m) := hs.1
  clear hg hs
  have HQ := Hold.refl w
  have HR := Lib.hid hr
  have HSO := Lib.hid (fun (h : ∀ i, i < (mulR m ps).length → ¬ OnS (nx (mulR m ps) i) (nx (mulR m ps) (i + 1)) (x, y)) => side_off h)
  have HSN := Lib.hid (fun i (hi : i < (mulR m ps).length) h => side_on (ps := mulR m ps) (p := (x, y)) hi h)
  rw [mulR_len] at HSO HSN
  have HNM := Lib.hid (fun i => nx_mulR m ps i)
  generalize side (mulR m ps) (x, y) = res at *
  have HRF : Hid (∀ k, rimF (mulR m ps) (x, y) k = cutB (mulp m (nx ps k)) (mulp m (nx ps (k + 1))) (x, y)) := fun k => by rw [← HNM.out, ← HNM.out]; rfl
  generalize mulR m ps = rs at *
  clear hr
  go_enter Tryz.func28, Tryz.ntmps28
  go_wp2_with fail
  go_loopg [9, 10] ps.length (fun n o i wr => ∃ k : Nat, k ≤ ps.length ∧ n = ps.length - k ∧ i = .int .i64 k ∧ o = .bool (oddTo (rimF rs (x, y)) k) ∧ (∀ i, i < k → ¬ OnS (nx rs i) (nx rs (i + 1)) (x, y)) ∧ Hold w [] wr)
  case atStart => exact ⟨0, Nat.zero_le _, rfl, rfl, rfl, fun i hi => absurd hi (by omega), HQ⟩
  case round =>
    clear HQ
    obtain ⟨k, hk, hgk, rfl, rfl, hoff, HB⟩ := hrel
    have HGK := Lib.hid hgk
    have HO := Lib.hid hoff
    clear hgk hoff
    by_cases hlt : k < ps.length
    · obtain ⟨j, hj, e1, e2, e3⟩ := next_place hlt
      obtain ⟨ad, rfl, hadb, d0, d1⟩ := HR.out.nx HB.1 hlt (Nat.mod_eq_of_lt hlt)
      obtain ⟨ad', e', -, d2, d3⟩ := HR.out.nx (HB.1.alloc HB.1.size (Obj.cells #[.int .i64 (nx ps k).1, .int .i64 (nx ps k).2] 28)) hj e1
      obtain rfl := Option.some.inj e'
      have HGA := Lib.hid (nx_gd HG.out (by omega) k)
      have HGB := Lib.hid (nx_gd HG.out (by omega) (k + 1))
      have b0 : (0 : Int) ≤ (k : Int) := by omega
      have b1 : (k : Int) < (ps.length : Int) := by omega
      have b2 : (0 : Int) < (ps.length : Int) := by omega
      have b4 : (0 : Int) ≤ (j : Int) := by omega
      have b5 : (j : Int) < (ps.length : Int) := by omega
      have HOS : Hid (OnS (nx rs k) (nx rs (k + 1)) (x, y) ↔ cvB (low (nx ps k) (nx ps (k + 1))) (high (nx ps k) (nx ps (k + 1))) x y m = true) := by unfold Hid; rw [HNM.out, HNM.out]; exact (cvB_iff HM1.out).symm
      have HNEXT : Hid (cvB (low (nx ps k) (nx ps (k + 1))) (high (nx ps k) (nx ps (k + 1))) x y m = false → ∀ i, i < k + 1 → ¬ OnS (nx rs i) (nx rs (i + 1)) (x, y)) := fun hno i hi => by
        by_cases e : i = k
        · subst e; intro h; rw [HOS.out.1 h] at hno; cases hno
        · exact HO.out i (by omega)
      have HD : Hid (cvB (low (nx ps k) (nx ps (k + 1))) (high (nx ps k) (nx ps (k + 1))) x y m = true → res = 0) := fun h => HSN.out k hlt (HOS.out.2 h)
      have HF := Lib.hid ((HRF.out k).trans (cut_cov HM1.out))
      clear e' e1 HOS HSN HSO HRF HNM HO HR
      generalize nx ps k = a at *
      generalize nx ps (k + 1) = b at *
      go_upto_region 7 with (fail)
      have HL := (HB.new #[.int .i64 a.1, .int .i64 a.2] 28).new' #[.int .i64 b.1, .int .i64 b.2] 28 (n := wr.heap.size + 1) (by simp only [World.size_alloc])
      clear HB d0 d1 d2 d3 hadb e2 e3
      generalize (World.alloc _ _) = W2 at HL ⊢
      generalize wr.heap.size + 1 = g12 at HL ⊢
      generalize wr.heap.size = g11 at HL ⊢
      obtain ⟨f0, f1, f2, f3⟩ := HL.duo
      go_upto_if 41 with (fail)
      go_cut [13] (fun s13 wx => Hold w [(g12, #[.int .i64 (high a b).1, .int .i64 (high a b).2], 28), (g11, #[.int .i64 (low a b).1, .int .i64 (low a b).2], 28)] wx)
      case first =>
        by_cases hs : b.2 < a.2
        · have el : Hid (low a b = b ∧ high a b = a) := by unfold Hid low high; rw [if_pos hs, if_pos hs]; exact ⟨rfl, rfl⟩
          have H9 := HL.new #[.int .i64 a.1, .int .i64 a.2] 28
          have H10 := Hold.put (L1 := [_, _]) (Hold.put (L1 := [_, _]) H9 0 (.int .i64 b.1)) 1 (.int .i64 b.2)
          have H11 := Hold.put (L1 := [_]) (Hold.put (L1 := [_]) H10 0 (.int .i64 a.1)) 1 (.int .i64 a.2)
          obtain ⟨i0, i1⟩ := H9.pt (.tail _ (.head _))
          obtain ⟨i2, i3⟩ := H9.pt (.tail _ (.tail _ (.head _)))
          obtain ⟨i4, i5⟩ := H9.fz (.tail _ (.tail _ (.head _)))
          obtain ⟨i6, i7⟩ := H10.pt (.head _)
          obtain ⟨i8, i9⟩ := H10.pt (.tail _ (.head _))
          obtain ⟨j0, j1⟩ := H10.fz (.tail _ (.head _))
          have HK := Lib.hid H11.tail
          clear H9 H10 H11
          go_wp2_with fail
          go_meet
          rw [el.out.1, el.out.2]
          exact HK.out
        · have el : Hid (low a b = a ∧ high a b = b) := by unfold Hid low high; rw [if_neg hs, if_neg hs]; exact ⟨rfl, rfl⟩
          go_wp2_with fail
          go_meet
          rw [el.out.1, el.out.2]
          exact HL
      case rest =>
        clear HL f0 f1 f2 f3
        have HGL : Hid (Gd (low a b)) := by unfold Hid low; split <;> first | exact HGA.out | exact HGB.out
        have HGH : Hid (Gd (high a b)) := by unfold Hid high; split <;> first | exact HGA.out | exact HGB.out
        have HLN := Lib.hid hcut
        clear HGA HGB hcut
        generalize low a b = lo at *
        generalize high a b = hi at *
        have hs' := HS.out
        have hgl := HGL.out
        have hgh := HGH.out
        unfold SpOk at hs'
        unfold Gd at hgl hgh
        have l1 := sp_lim HS.out (n := lo.1) (by omega)
        have l2 := sp_lim HS.out (n := lo.2) (by omega)
        have l3 := sp_lim HS.out (n := hi.1) (by omega)
        have l4 := sp_lim HS.out (n := hi.2) (by omega)
        have l5 := mul_lim (x := hi.1 - lo.1) (y := m) (P := 2147483648) (Q := 1024) (by omega) (by omega)
        have l6 := mul_lim (x := hi.2 - lo.2) (y := m) (P := 2147483648) (Q := 1024) (by omega) (by omega)
        have q1 := wrap_in (n := hi.1 - lo.1) (by omega) (by omega)
        have q2 := wrap_in (n := (hi.1 - lo.1) * m) (by omega) (by omega)
        have q3 := wrap_in (n := lo.2 * m) (by omega) (by omega)
        have q4 := wrap_in (n := y - lo.2 * m) (by omega) (by omega)
        have q5 := wrap_in (n := hi.2 - lo.2) (by omega) (by omega)
        have q6 := wrap_in (n := (hi.2 - lo.2) * m) (by omega) (by omega)
        have q7 := wrap_in (n := lo.1 * m) (by omega) (by omega)
        have q8 := wrap_in (n := x - lo.1 * m) (by omega) (by omega)
        have q9 := wrap_in (n := hi.1 * m) (by omega) (by omega)
        have q10 := wrap_in (n := hi.2 * m) (by omega) (by omega)
        have HML := Lib.hid (fun W => ref_mul ((hi.1 - lo.1) * m) (y - lo.2 * m) (by omega) (by omega) (by omega) (by omega) W)
        have HMM := Lib.hid (fun W => ref_mul ((hi.2 - lo.2) * m) (x - lo.1 * m) (by omega) (by omega) (by omega) (by omega) W)
        have p1 := mul_lim (x := (hi.1 - lo.1) * m) (y := y - lo.2 * m) (P := 2199023255552) (Q := 2199023255552) (by omega) (by omega)
        have p2 := mul_lim (x := (hi.2 - lo.2) * m) (y := x - lo.1 * m) (P := 2199023255552) (Q := 2199023255552) (by omega) (by omega)
        have i1 : InR (((hi.1 - lo.1) * m) * (y - lo.2 * m)) := by unfold InR; omega
        have i2 : InR (((hi.2 - lo.2) * m) * (x - lo.1 * m)) := by unfold InR; omega
        have HC : Hid (cmp (hiOf (((hi.1 - lo.1) * m) * (y - lo.2 * m))) (loOf (((hi.1 - lo.1) * m) * (y - lo.2 * m))) (hiOf (((hi.2 - lo.2) * m) * (x - lo.1 * m))) (loOf (((hi.2 - lo.2) * m) * (x - lo.1 * m))) = sgn (crs (mulp m lo) (mulp m hi) (x, y))) := by
          unfold Hid; rw [sgn_cmp i1 i2, cov_crs]
        have HCM := Lib.hid (fun h l h' l' W => ref_compare h l h' l' W)
        clear p1 p2 i1 i2 l1 l2 l3 l4 l5 l6 hs' hgl hgh
        obtain ⟨f0, f1, f2, f3⟩ := HLN.out.duo
        go_wp2_with fail
        go_at_call 58
        refine (HML.out _).mono ?_
        rintro e W4 ⟨rfl, hB⟩
        have hq4 := (HLN.out.on hB).new #[.int .i64 (hiOf (((hi.1 - lo.1) * m) * (y - lo.2 * m))), .int .u64 (loOf (((hi.1 - lo.1) * m) * (y - lo.2 * m)))] 65
        have HQ4 := Lib.hid hq4
        clear hB f0 f1 f2 f3
        have h4 := hq4.pt (.tail _ (.head _))
        have h5 := hq4.pt (.tail _ (.tail _ (.head _)))
        obtain ⟨f0, f1⟩ := h4
        obtain ⟨f2, f3⟩ := h5
        clear hq4
        go_wp2_with fail
        go_at_call 58
        refine (HMM.out _).mono ?_
        rintro e W5 ⟨rfl, hB⟩
        have hq5 := (HQ4.out.on hB).new #[.int .i64 (hiOf (((hi.2 - lo.2) * m) * (x - lo.1 * m))), .int .u64 (loOf (((hi.2 - lo.2) * m) * (x - lo.1 * m)))] 65
        have HQ5 := Lib.hid hq5
        obtain ⟨t0, t1⟩ := hq5.pt (.tail _ (.head _))
        clear hB f0 f1 f2 f3 hq5
        go_wp2_with fail
        go_at_call 59
        refine (HCM.out _ _ _ _ _).mono ?_
        rintro e W6 ⟨rfl, hB⟩
        have hq6 := (HQ5.out.on hB).sub (L' := [(g12, #[.int .i64 hi.1, .int .i64 hi.2], 28), (g11, #[.int .i64 lo.1, .int .i64 lo.2], 28)]) (List.Sublist.cons _ (List.Sublist.cons _ (List.Sublist.refl _)))
        have HQ6 := Lib.hid hq6
        rw [HC.out]
        clear hB t0 t1 HML HMM HCM HC q1 q2 q4 q5 q6 q8
        obtain ⟨f0, f1, f2, f3⟩ := hq6.duo
        clear hq6
        have HCV : Hid (cvB lo hi x y m = ((sgn (crs (mulp m lo) (mulp m hi) (x, y)) == 0) && decide (min lo.1 hi.1 * m ≤ x) && decide (x ≤ max lo.1 hi.1 * m) && decide (lo.2 * m ≤ y) && decide (y ≤ hi.2 * m))) := rfl
        generalize sgn (crs (mulp m lo) (mulp m hi) (x, y)) = t at *
        go_upto_if 82 with (fail)
        go_cut [17, 18] (fun s17 s18 wx => s17 = .int .i64 (min lo.1 hi.1) ∧ s18 = .int .i64 (max lo.1 hi.1) ∧ Hold w [(g12, #[.int .i64 hi.1, .int .i64 hi.2], 28), (g11, #[.int .i64 lo.1, .int .i64 lo.2], 28)] wx)
        case first =>
          by_cases hs : hi.1 < lo.1
          · have el : Hid (min lo.1 hi.1 = hi.1 ∧ max lo.1 hi.1 = lo.1) := by unfold Hid; omega
            go_wp2_with fail
            go_meet
            exact ⟨by rw [el.out.1], by rw [el.out.2], HQ6.out⟩
          · have el : Hid (min lo.1 hi.1 = lo.1 ∧ max lo.1 hi.1 = hi.1) := by unfold Hid; omega
            go_wp2_with fail
            go_meet
            exact ⟨by rw [el.out.1], by rw [el.out.2], HQ6.out⟩
        case rest =>
          obtain ⟨rfl, rfl, HB7⟩ := hcut
          clear HQ6 f0 f1 f2 f3
          obtain ⟨f0, f1, f2, f3⟩ := HB7.duo
          have q11 : IntKind.i64.wrap (min lo.1 hi.1 * m) = min lo.1 hi.1 * m := by
            rcases Int.le_total lo.1 hi.1 with h | h
            · rw [show min lo.1 hi.1 = lo.1 by omega]; exact q7
            · rw [show min lo.1 hi.1 = hi.1 by omega]; exact q9
          have q12 : IntKind.i64.wrap (max lo.1 hi.1 * m) = max lo.1 hi.1 * m := by
            rcases Int.le_total lo.1 hi.1 with h | h
            · rw [show max lo.1 hi.1 = hi.1 by omega]; exact q9
            · rw [show max lo.1 hi.1 = lo.1 by omega]; exact q7
          clear q7 q9
          generalize min lo.1 hi.1 = lx at *
          generalize max lo.1 hi.1 = hx at *
          have HB8 := Lib.hid HB7
          clear HB7
          obtain ⟨cv, hcv⟩ : ∃ c, cvB lo hi x y m = c := ⟨_, rfl⟩
          rw [hcv] at HCV HNEXT HD
          go_upto_region 19 with (fail)
          go_cut [118] (fun s wx => s = .bool cv ∧ Hold w [(g12, #[.int .i64 hi.1, .int .i64 hi.2], 28), (g11, #[.int .i64 lo.1, .int .i64 lo.2], 28)] wx)
          case first =>
            clear HD HNEXT HF hcv
            by_cases h1 : t = 0
            · have e1 : (t == 0) = true := by simpa using h1
              by_cases h2 : lx * m ≤ x
              · by_cases h3 : x ≤ hx * m
                · by_cases h4 : lo.2 * m ≤ y
                  · by_cases h5 : y ≤ hi.2 * m
                    · have HF : Hid (cv = true) := by unfold Hid; rw [HCV.out, e1, decide_eq_true h2, decide_eq_true h3, decide_eq_true h4, decide_eq_true h5]; rfl
                      clear HCV h1
                      go_wp2_with fail
                      go_meet
                      exact ⟨by rw [HF.out], HB8.out⟩
                    · have HF : Hid (cv = false) := by unfold Hid; rw [HCV.out, decide_eq_false h5, Bool.and_false]
                      clear HCV h1
                      go_wp2_with fail
                      go_meet
                      exact ⟨by rw [HF.out], HB8.out⟩
                  · have HF : Hid (cv = false) := by unfold Hid; rw [HCV.out, decide_eq_false h4, Bool.and_false, Bool.false_and]
                    clear HCV h1
                    go_wp2_with fail
                    go_meet
                    exact ⟨by rw [HF.out], HB8.out⟩
                · have HF : Hid (cv = false) := by unfold Hid; rw [HCV.out, decide_eq_false h3, Bool.and_false, Bool.false_and, Bool.false_and]
                  clear HCV h1
                  go_wp2_with fail
                  go_meet
                  exact ⟨by rw [HF.out], HB8.out⟩
              · have HF : Hid (cv = false) := by unfold Hid; rw [HCV.out, decide_eq_false h2, Bool.and_false, Bool.false_and, Bool.false_and, Bool.false_and]
                clear HCV h1
                go_wp2_with fail
                go_meet
                exact ⟨by rw [HF.out], HB8.out⟩
            · have e1 : (t == 0) = false := by simpa using h1
              have HF : Hid (cv = false) := by unfold Hid; rw [HCV.out, e1, Bool.false_and, Bool.false_and, Bool.false_and, Bool.false_and]
              clear HCV h1
              go_wp2_with fail
              go_meet
              exact ⟨by rw [HF.out], HB8.out⟩
          case rest =>
            obtain ⟨rfl, HB9'⟩ := hcut
            clear f0 f1 f2 f3 HB8 HCV
            obtain ⟨f0, f1, f2, f3⟩ := HB9'.duo
            have HB9 := Lib.hid HB9'
            clear HB9'
            cases cv
            · have HNX := Lib.hid (HNEXT.out rfl)
              clear HNEXT HD hcv
              have HST : Hid (∀ c, rimF rs (x, y) k = c → oddTo (rimF rs (x, y)) (k + 1) = (oddTo (rimF rs (x, y)) k ^^ c)) := fun c hc => by rw [oddTo, hc]
              by_cases k1 : lo.2 * m ≤ y
              · by_cases k2 : y < hi.2 * m
                · by_cases k3 : 0 < t
                  · have HE2 : Hid (oddTo (rimF rs (x, y)) (k + 1) = !(oddTo (rimF rs (x, y)) k)) := (HST.out true (by rw [HF.out, decide_eq_true k1, decide_eq_true k2, decide_eq_true k3]; rfl)).trans (Bool.xor_true _)
                    clear HST HF
                    go_wp2_with fail
                    go_roundg (ps.length - (k + 1))
                    case measure => have := HGK.out; omega
                    case rel => exact ⟨k + 1, by omega, rfl, by go_num, by rw [HE2.out], HNX.out, HB9.out.bare⟩
                  · have HE2 : Hid (oddTo (rimF rs (x, y)) (k + 1) = oddTo (rimF rs (x, y)) k) := (HST.out false (by rw [HF.out, decide_eq_false k3, Bool.and_false])).trans (Bool.xor_false _)
                    clear HST HF
                    go_wp2_with fail
                    go_roundg (ps.length - (k + 1))
                    case measure => have := HGK.out; omega
                    case rel => exact ⟨k + 1, by omega, rfl, by go_num, by rw [HE2.out], HNX.out, HB9.out.bare⟩
                · have HE2 : Hid (oddTo (rimF rs (x, y)) (k + 1) = oddTo (rimF rs (x, y)) k) := (HST.out false (by rw [HF.out, decide_eq_false k2, Bool.and_false, Bool.false_and])).trans (Bool.xor_false _)
                  clear HST HF
                  go_wp2_with fail
                  go_roundg (ps.length - (k + 1))
                  case measure => have := HGK.out; omega
                  case rel => exact ⟨k + 1, by omega, rfl, by go_num, by rw [HE2.out], HNX.out, HB9.out.bare⟩
              · have HE2 : Hid (oddTo (rimF rs (x, y)) (k + 1) = oddTo (rimF rs (x, y)) k) := (HST.out false (by rw [HF.out, decide_eq_false k1, Bool.false_and, Bool.false_and])).trans (Bool.xor_false _)
                clear HST HF
                go_wp2_with fail
                go_roundg (ps.length - (k + 1))
                case measure => have := HGK.out; omega
                case rel => exact ⟨k + 1, by omega, rfl, by go_num, by rw [HE2.out], HNX.out, HB9.out.bare⟩
            · have HJ := Lib.hid (HD.out rfl)
              clear HD HNEXT HF hcv
              go_wp2
              go_ret
              rw [HJ.out]
              exact ⟨rfl, HB9.out.1⟩
    · obtain rfl : k = ps.length := by omega
      have HJJ := Lib.hid (HSO.out HO.out)
      have HB9 := Lib.hid HB.1
      clear HB HO HSN HSO HRF HNM HR
      cases ho : oddTo (rimF rs (x, y)) ps.length
      · have HJ : Hid (res = -1) := by unfold Hid; rw [HJJ.out, ho]; rfl
        clear HJJ
        go_wp2
        go_ret
        rw [HJ.out]
        exact ⟨rfl, HB9.out⟩
      · have HJ : Hid (res = 1) := by unfold Hid; rw [HJJ.out, ho]; rfl
        clear HJJ
        go_wp2
        go_ret
        rw [HJ.out]
        exact ⟨rfl, HB9.out⟩
end Go.Proofs.YtbcmnhbpomjinaaGreat
