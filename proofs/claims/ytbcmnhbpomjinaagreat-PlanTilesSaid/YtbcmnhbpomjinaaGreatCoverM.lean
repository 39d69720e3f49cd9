/- The program's spots: points between the grid's points, and where an edge lies beside them. -/
import Derived.Test.YtbcmnhbpomjinaaGreatGeo3
import Derived.Test.YtbcmnhbpomjinaaGreatTile
namespace Go.Proofs.YtbcmnhbpomjinaaGreat
open Go.RowKit

theorem between_any (n a b : Int) (w : World) :
    Calls Tryz.prog 129 #[.int .i64 n, .int .i64 a, .int .i64 b] w fun e w' => e = .returned (.bool (wth n (min a b) (max a b))) ∧ w = w' := by
  have m1 : (if b < a then b else a) = min a b := by split <;> omega
  have m2 : (if a < b then b else a) = max a b := by split <;> omega
  generalize min a b = lo at *
  generalize max a b = hi at *
  by_cases h1 : lo ≤ n
  · by_cases h2 : n ≤ hi
    · have HG : Hid (wth n lo hi = true) := by unfold Hid wth; simp only [h1, h2, decide_true, Bool.and_self]
      go_enter Tryz.func129, Tryz.ntmps129
      go_wp2
      go_ret
      rw [HG.out]
      exact ⟨rfl, rfl⟩
    · have HG : Hid (wth n lo hi = false) := by unfold Hid wth; simp only [h2, decide_false, Bool.and_false]
      go_enter Tryz.func129, Tryz.ntmps129
      go_wp2
      go_ret
      rw [HG.out]
      exact ⟨rfl, rfl⟩
  · have HG : Hid (wth n lo hi = false) := by unfold Hid wth; simp only [h1, decide_false, Bool.false_and]
    go_enter Tryz.func129, Tryz.ntmps129
    go_wp2
    go_ret
    rw [HG.out]
    exact ⟨rfl, rfl⟩

/-- A spot within its limits. -/
def SpOk (x y m : Int) : Prop := 1 ≤ m ∧ m ≤ 1024 ∧ -(1073741824 * m) ≤ x ∧ x ≤ 1073741824 * m ∧ -(1073741824 * m) ≤ y ∧ y ≤ 1073741824 * m
/-- The cross product beside a spot. -/
def spT (a b : Int × Int) (x y m : Int) : Int := (b.1 - a.1) * (y - a.2 * m) - (b.2 - a.2) * (x - a.1 * m)
theorem spT_crs (a b : Int × Int) (x y m : Int) : m * spT a b x y m = crs (mulp m a) (mulp m b) (x, y) := by
  unfold spT crs mulp
  simp only
  grind
theorem sp_lim {x y m n : Int} (h : SpOk x y m) (hn : -1073741824 ≤ n ∧ n ≤ 1073741824) : -1099511627776 ≤ n * m ∧ n * m ≤ 1099511627776 := by
  unfold SpOk at h
  have := mul_lim (x := n) (y := m) (P := 1073741824) (Q := 1024) hn (by omega)
  omega
set_option maxHeartbeats 1000000 in
theorem spturn_any (x y m : Int) (a b : Int × Int) (hs : SpOk x y m) (ha : Gd a) (hb : Gd b) (w : World) :
    Calls Tryz.prog 128 #[.agg #[.int .i64 x, .int .i64 y, .int .i64 m], .agg #[.int .i64 a.1, .int .i64 a.2, .int .i64 b.1, .int .i64 b.2]] w fun e w' => e = .returned (.int .i64 (sgn (spT a b x y m))) ∧ Below w.heap.size w w' := by
  have ha' := ha
  have hb' := hb
  unfold Gd at ha' hb'
  have hl1 := sp_lim hs (n := a.1) (by omega)
  have hl2 := sp_lim hs (n := a.2) (by omega)
  have hs' := hs
  unfold SpOk at hs'
  have q1 := wrap_in (n := b.1 - a.1) (by omega) (by omega)
  have q2 := wrap_in (n := a.2 * m) (by omega) (by omega)
  have q3 := wrap_in (n := y - a.2 * m) (by omega) (by omega)
  have q4 := wrap_in (n := b.2 - a.2) (by omega) (by omega)
  have q5 := wrap_in (n := a.1 * m) (by omega) (by omega)
  have q6 := wrap_in (n := x - a.1 * m) (by omega) (by omega)
  have HM1 := Lib.hid (fun W => mul_any (b.1 - a.1) (y - a.2 * m) W (by omega) (by omega) (by omega) (by omega))
  have HM2 := Lib.hid (fun W => mul_any (b.2 - a.2) (x - a.1 * m) W (by omega) (by omega) (by omega) (by omega))
  have p1 := mul_lim (x := b.1 - a.1) (y := y - a.2 * m) (P := 2147483648) (Q := 4398046511104) (by omega) (by omega)
  have p2 := mul_lim (x := b.2 - a.2) (y := x - a.1 * m) (P := 2147483648) (Q := 4398046511104) (by omega) (by omega)
  have i1 : InR ((b.1 - a.1) * (y - a.2 * m)) := by unfold InR; omega
  have i2 : InR ((b.2 - a.2) * (x - a.1 * m)) := by unfold InR; omega
  have HC : Hid (cmp (hiOf ((b.1 - a.1) * (y - a.2 * m))) (loOf ((b.1 - a.1) * (y - a.2 * m))) (hiOf ((b.2 - a.2) * (x - a.1 * m))) (loOf ((b.2 - a.2) * (x - a.1 * m))) = sgn (spT a b x y m)) := by
    unfold Hid spT
    rw [cmp_val (wf_of i1) (wf_of i2), val_of, val_of]
    unfold sgn
    split <;> split <;> (try split) <;> omega
  have HCM := Lib.hid (fun h l h' l' W => compare_any h l h' l' W)
  have HQ := ((Hold.refl w).new #[.int .i64 x, .int .i64 y, .int .i64 m] 91).new #[.int .i64 a.1, .int .i64 a.2, .int .i64 b.1, .int .i64 b.2] 30
  clear p1 p2 i1 i2 hl1 hl2 hs hs' ha hb ha' hb'
  go_enter Tryz.func128, Tryz.ntmps128
  go_upto_region 1 with (fail)
  simp only [World.size_alloc] at HQ
  generalize (World.alloc _ _) = W1 at HQ ⊢
  obtain ⟨g1, hg1⟩ : ∃ g, w.heap.size + 1 = g := ⟨_, rfl⟩
  rw [hg1] at HQ ⊢
  obtain ⟨g0, hg0⟩ : ∃ g, w.heap.size = g := ⟨_, rfl⟩
  rw [hg0] at HQ ⊢
  clear hg1 hg0
  have HQ1 := Lib.hid HQ
  obtain ⟨s0, s1, s2⟩ : W1.cell? ⟨g0, 0, none⟩ = some (.int .i64 x) ∧ W1.cell? ⟨g0, 1, none⟩ = some (.int .i64 y) ∧ W1.cell? ⟨g0, 2, none⟩ = some (.int .i64 m) := ⟨HQ.cell (.tail _ (.head _)) 0, HQ.cell (.tail _ (.head _)) 1, HQ.cell (.tail _ (.head _)) 2⟩
  obtain ⟨e0, e1, e2, e3⟩ : W1.cell? ⟨g1, 0, none⟩ = some (.int .i64 a.1) ∧ W1.cell? ⟨g1, 1, none⟩ = some (.int .i64 a.2) ∧ W1.cell? ⟨g1, 2, none⟩ = some (.int .i64 b.1) ∧ W1.cell? ⟨g1, 3, none⟩ = some (.int .i64 b.2) := ⟨HQ.cell (.head _) 0, HQ.cell (.head _) 1, HQ.cell (.head _) 2, HQ.cell (.head _) 3⟩
  clear HQ
  go_wp2_with fail
  go_at_call 150
  refine (HM1.out _).mono ?_
  rintro e W2 ⟨rfl, hB⟩
  have hq2 := (HQ1.out.on hB).new #[.int .i64 (hiOf ((b.1 - a.1) * (y - a.2 * m))), .int .u64 (loOf ((b.1 - a.1) * (y - a.2 * m)))] 65
  have HQ2 := Lib.hid hq2
  clear hB s0 s1 s2 e0 e1 e2 e3
  obtain ⟨s0, s1, s2⟩ : (W2.alloc _).cell? ⟨g0, 0, none⟩ = some (.int .i64 x) ∧ (W2.alloc _).cell? ⟨g0, 1, none⟩ = some (.int .i64 y) ∧ (W2.alloc _).cell? ⟨g0, 2, none⟩ = some (.int .i64 m) := ⟨hq2.cell (.tail _ (.tail _ (.head _))) 0, hq2.cell (.tail _ (.tail _ (.head _))) 1, hq2.cell (.tail _ (.tail _ (.head _))) 2⟩
  obtain ⟨e0, e1, e2, e3⟩ : (W2.alloc _).cell? ⟨g1, 0, none⟩ = some (.int .i64 a.1) ∧ (W2.alloc _).cell? ⟨g1, 1, none⟩ = some (.int .i64 a.2) ∧ (W2.alloc _).cell? ⟨g1, 2, none⟩ = some (.int .i64 b.1) ∧ (W2.alloc _).cell? ⟨g1, 3, none⟩ = some (.int .i64 b.2) := ⟨hq2.cell (.tail _ (.head _)) 0, hq2.cell (.tail _ (.head _)) 1, hq2.cell (.tail _ (.head _)) 2, hq2.cell (.tail _ (.head _)) 3⟩
  clear hq2
  go_wp2_with fail
  go_at_call 150
  refine (HM2.out _).mono ?_
  rintro e W3 ⟨rfl, hB⟩
  have hq3 := (HQ2.out.on hB).new #[.int .i64 (hiOf ((b.2 - a.2) * (x - a.1 * m))), .int .u64 (loOf ((b.2 - a.2) * (x - a.1 * m)))] 65
  have HQ3 := Lib.hid hq3
  obtain ⟨t0, t1⟩ := hq3.pt (.tail _ (.head _))
  clear hB hq3 s0 s1 s2 e0 e1 e2 e3
  go_wp2_with (go_at_call 151; go_must (refine (HCM.out _ _ _ _ _).mono ?_; rintro e' W4 ⟨rfl, hB⟩; have HB4 := Lib.hid (HQ3.out.on hB).1; clear hB))
  go_ret
  rw [HC.out]
  exact ⟨rfl, HB4.out⟩

section
variable {w W : World} {g0 g1 : Nat} {u0 u1 u2 v0 v1 v2 v3 : Value} {t0 t1 : TypeId}
/-- A spot and an edge in blocks of the call's own. -/
theorem Hold.spot (h : Hold w [(g1, #[v0, v1, v2, v3], t1), (g0, #[u0, u1, u2], t0)] W) : (W.cell? ⟨g0, 0, none⟩ = some u0 ∧ W.cell? ⟨g0, 1, none⟩ = some u1 ∧ W.cell? ⟨g0, 2, none⟩ = some u2) ∧
    W.cell? ⟨g1, 0, none⟩ = some v0 ∧ W.cell? ⟨g1, 1, none⟩ = some v1 ∧ W.cell? ⟨g1, 2, none⟩ = some v2 ∧ W.cell? ⟨g1, 3, none⟩ = some v3 :=
  ⟨⟨h.cell (.tail _ (.head _)) 0, h.cell (.tail _ (.head _)) 1, h.cell (.tail _ (.head _)) 2⟩, h.cell (.head _) 0, h.cell (.head _) 1, h.cell (.head _) 2, h.cell (.head _) 3⟩
end
/-- Whether a spot is on an edge. -/
def spOn (a b : Int × Int) (x y m : Int) : Bool := (sgn (spT a b x y m) == 0) && wth x (min (a.1 * m) (b.1 * m)) (max (a.1 * m) (b.1 * m)) && wth y (min (a.2 * m) (b.2 * m)) (max (a.2 * m) (b.2 * m))
theorem spOn_iff {a b : Int × Int} {x y m : Int} (hm : 1 ≤ m) : spOn a b x y m = true ↔ OnS (mulp m a) (mulp m b) (x, y) := by
  unfold spOn OnS
  rw [Bool.and_eq_true, Bool.and_eq_true, wth_btw, wth_btw, beq_iff_eq, sgn_zero, and_assoc, ← spT_crs, mul_zero_iff' (by omega)]
  unfold mulp
  simp only [Int.mul_comm m]
set_option maxHeartbeats 1000000 in
theorem spon_any (x y m : Int) (a b : Int × Int) (hs : SpOk x y m) (ha : Gd a) (hb : Gd b) (w : World) :
    Calls Tryz.prog 95 #[.agg #[.int .i64 x, .int .i64 y, .int .i64 m], .agg #[.int .i64 a.1, .int .i64 a.2, .int .i64 b.1, .int .i64 b.2]] w fun e w' => e = .returned (.bool (spOn a b x y m)) ∧ Below w.heap.size w w' := by
  have HT := Lib.hid (fun W => spturn_any x y m a b hs ha hb W)
  unfold Gd at ha hb
  have hl1 := sp_lim hs (n := a.1) (by omega)
  have hl2 := sp_lim hs (n := a.2) (by omega)
  have hl3 := sp_lim hs (n := b.1) (by omega)
  have hl4 := sp_lim hs (n := b.2) (by omega)
  have q1 := wrap_in (n := a.1 * m) (by omega) (by omega)
  have q2 := wrap_in (n := a.2 * m) (by omega) (by omega)
  have q3 := wrap_in (n := b.1 * m) (by omega) (by omega)
  have q4 := wrap_in (n := b.2 * m) (by omega) (by omega)
  clear hl1 hl2 hl3 hl4 hs ha hb
  have HX := Lib.hid (fun W => between_any x (a.1 * m) (b.1 * m) W)
  have HY := Lib.hid (fun W => between_any y (a.2 * m) (b.2 * m) W)
  have HD : Hid (spOn a b x y m = ((sgn (spT a b x y m) == 0) && wth x (min (a.1 * m) (b.1 * m)) (max (a.1 * m) (b.1 * m)) && wth y (min (a.2 * m) (b.2 * m)) (max (a.2 * m) (b.2 * m)))) := rfl
  generalize sgn (spT a b x y m) = t at *
  generalize spOn a b x y m = r at *
  generalize wth x (min (a.1 * m) (b.1 * m)) (max (a.1 * m) (b.1 * m)) = c1 at *
  generalize wth y (min (a.2 * m) (b.2 * m)) (max (a.2 * m) (b.2 * m)) = c2 at *
  have HQ := ((Hold.refl w).new #[.int .i64 x, .int .i64 y, .int .i64 m] 91).new #[.int .i64 a.1, .int .i64 a.2, .int .i64 b.1, .int .i64 b.2] 30
  go_enter Tryz.func95, Tryz.ntmps95
  go_upto_region 1 with (fail)
  simp only [World.size_alloc] at HQ
  generalize (World.alloc _ _) = W1 at HQ ⊢
  obtain ⟨g1, hg1⟩ : ∃ g, w.heap.size + 1 = g := ⟨_, rfl⟩
  rw [hg1] at HQ ⊢
  obtain ⟨g0, hg0⟩ : ∃ g, w.heap.size = g := ⟨_, rfl⟩
  rw [hg0] at HQ ⊢
  clear hg1 hg0
  have HQ1 := Lib.hid HQ
  obtain ⟨⟨s0, s1, s2⟩, e0, e1, e2, e3⟩ := HQ.spot
  clear HQ
  go_wp2_with fail
  go_at_call 128
  refine (HT.out _).mono ?_
  rintro e W2 ⟨rfl, hB⟩
  have hq2 := HQ1.out.on hB
  have HB2 := Lib.hid hq2.1
  clear s0 s1 s2 e0 e1 e2 e3 hB
  obtain ⟨⟨s0, s1, s2⟩, e0, e1, e2, e3⟩ := hq2.spot
  clear hq2
  cases h1 : (t == 0)
  · have HE : Hid (r = false) := by unfold Hid; rw [HD.out, h1]; rfl
    clear HD
    go_wp2
    go_ret
    rw [HE.out]
    exact ⟨rfl, HB2.out⟩
  · cases c1
    · have HE : Hid (r = false) := by unfold Hid; rw [HD.out, h1]; rfl
      clear HD HY
      go_wp2_with (go_at_call 129; go_must (refine (HX.out _).mono ?_; rintro e' W3 ⟨rfl, rfl⟩))
      go_ret
      rw [HE.out]
      exact ⟨rfl, HB2.out⟩
    · have HE : Hid (r = c2) := by unfold Hid; rw [HD.out, h1]; rfl
      clear HD
      go_wp2_with fail
      go_at_call 129
      refine (HX.out _).mono ?_
      rintro e' W3 ⟨rfl, rfl⟩
      go_wp2_with (go_at_call 129; go_must (refine (HY.out _).mono ?_; rintro e' W4 ⟨rfl, rfl⟩))
      go_ret
      rw [HE.out]
      exact ⟨rfl, HB2.out⟩

/-- How an edge passes a spot. -/
def spP (a b : Int × Int) (x y m : Int) : Int := if a.2 * m < y ∧ y ≤ b.2 * m ∧ 0 < sgn (spT a b x y m) then 1 else if b.2 * m < y ∧ y ≤ a.2 * m ∧ sgn (spT a b x y m) < 0 then -1 else 0
theorem spP_psv {a b : Int × Int} {x y m : Int} (hm : 1 ≤ m) : spP a b x y m = psv (mulp m a) (mulp m b) (x, y) := by
  have h : 0 < sgn (spT a b x y m) ↔ 0 < spT a b x y m := by unfold sgn; split <;> (try split) <;> omega
  have k1 : 0 < crs (mulp m a) (mulp m b) (x, y) ↔ 0 < sgn (spT a b x y m) := by rw [← spT_crs, mul_pos_iff' (by omega)]; exact h.symm
  have k2 : crs (mulp m a) (mulp m b) (x, y) < 0 ↔ sgn (spT a b x y m) < 0 := by rw [← spT_crs, mul_neg_iff' (by omega), sgn_lt]
  unfold spP psv
  simp only [k1, k2]
  unfold mulp
  simp only [Int.mul_comm m]
set_option maxHeartbeats 1000000 in
theorem spP_any (x y m : Int) (a b : Int × Int) (hs : SpOk x y m) (ha : Gd a) (hb : Gd b) (w : World) :
    Calls Tryz.prog 96 #[.agg #[.int .i64 x, .int .i64 y, .int .i64 m], .agg #[.int .i64 a.1, .int .i64 a.2, .int .i64 b.1, .int .i64 b.2]] w fun e w' => e = .returned (.int .i64 (spP a b x y m)) ∧ Below w.heap.size w w' := by
  have HT := Lib.hid (fun W => spturn_any x y m a b hs ha hb W)
  unfold Gd at ha hb
  have hl2 := sp_lim hs (n := a.2) (by omega)
  have hl4 := sp_lim hs (n := b.2) (by omega)
  have q2 := wrap_in (n := a.2 * m) (by omega) (by omega)
  have q4 := wrap_in (n := b.2 * m) (by omega) (by omega)
  clear hl2 hl4 hs ha hb
  have HD : Hid (spP a b x y m = if a.2 * m < y ∧ y ≤ b.2 * m ∧ 0 < sgn (spT a b x y m) then 1 else if b.2 * m < y ∧ y ≤ a.2 * m ∧ sgn (spT a b x y m) < 0 then -1 else 0) := rfl
  generalize sgn (spT a b x y m) = t at *
  generalize spP a b x y m = r at *
  have HQ := ((Hold.refl w).new #[.int .i64 x, .int .i64 y, .int .i64 m] 91).new #[.int .i64 a.1, .int .i64 a.2, .int .i64 b.1, .int .i64 b.2] 30
  go_enter Tryz.func96, Tryz.ntmps96
  go_upto_region 1 with (fail)
  simp only [World.size_alloc] at HQ
  generalize (World.alloc _ _) = W1 at HQ ⊢
  obtain ⟨g1, hg1⟩ : ∃ g, w.heap.size + 1 = g := ⟨_, rfl⟩
  rw [hg1] at HQ ⊢
  obtain ⟨g0, hg0⟩ : ∃ g, w.heap.size = g := ⟨_, rfl⟩
  rw [hg0] at HQ ⊢
  clear hg1 hg0
  go_cut [5, 6, 7] (fun s5 s6 s7 wx => s5 = .int .i64 (a.2 * m) ∧ s6 = .int .i64 (b.2 * m) ∧ s7 = .int .i64 t ∧ Hold w [(g1, #[.int .i64 a.1, .int .i64 a.2, .int .i64 b.1, .int .i64 b.2], 30), (g0, #[.int .i64 x, .int .i64 y, .int .i64 m], 91)] wx)
  case first =>
    go_region_held3 (fun W => (W.cell? ⟨g0, 0, none⟩ = some (.int .i64 x) ∧ W.cell? ⟨g0, 1, none⟩ = some (.int .i64 y) ∧ W.cell? ⟨g0, 2, none⟩ = some (.int .i64 m)) ∧ W.cell? ⟨g1, 0, none⟩ = some (.int .i64 a.1) ∧ W.cell? ⟨g1, 1, none⟩ = some (.int .i64 a.2) ∧ W.cell? ⟨g1, 2, none⟩ = some (.int .i64 b.1) ∧ W.cell? ⟨g1, 3, none⟩ = some (.int .i64 b.2)) (first | exact Hold.spot (by assumption) | exact Hold.spot (Hold.drew (by assumption))) ((go_at_call 128; (with_reducible refine (HT.out _).mono ?_); rintro e w' ⟨rfl, hB⟩; have HS' := Hold.on (L := [(g1, #[.int .i64 a.1, .int .i64 a.2, .int .i64 b.1, .int .i64 b.2], 30), (g0, #[.int .i64 x, .int .i64 y, .int .i64 m], 91)]) (by first | assumption | exact Hold.drew (by assumption)) hB))
    go_wp2_with fail
    go_meet
    exact ⟨rfl, rfl, rfl, HS'⟩
  case rest =>
    clear HQ HT
    obtain ⟨rfl, rfl, rfl, HB⟩ := hcut
    have HK := Lib.hid HB.1
    obtain ⟨⟨s0, s1, s2⟩, e0, e1, e2, e3⟩ := HB.spot
    clear HB
    generalize a.2 * m = u at *
    generalize b.2 * m = v at *
    by_cases h1 : u < y
    · by_cases h2 : y ≤ v
      · by_cases h3 : 0 < t
        · have HE : Hid (r = 1) := by unfold Hid; rw [HD.out, if_pos ⟨h1, h2, h3⟩]
          clear HD
          go_wp2
          go_ret
          rw [HE.out]
          exact ⟨rfl, HK.out⟩
        · have HE : Hid (r = 0) := by unfold Hid; rw [HD.out, if_neg (by omega), if_neg (by omega)]
          have h4 : ¬ v < y := by omega
          clear HD
          go_wp2
          go_ret
          rw [HE.out]
          exact ⟨rfl, HK.out⟩
      · have HE : Hid (r = 0) := by unfold Hid; rw [HD.out, if_neg (by omega), if_neg (by omega)]
        have h4 : v < y := by omega
        have h5 : ¬ y ≤ u := by omega
        clear HD
        go_wp2
        go_ret
        rw [HE.out]
        exact ⟨rfl, HK.out⟩
    · have h4 : y ≤ u := by omega
      by_cases h2 : v < y
      · by_cases h3 : t < 0
        · have HE : Hid (r = -1) := by unfold Hid; rw [HD.out, if_neg (by omega), if_pos ⟨h2, h4, h3⟩]
          clear HD
          go_wp2
          go_ret
          rw [HE.out]
          exact ⟨rfl, HK.out⟩
        · have HE : Hid (r = 0) := by unfold Hid; rw [HD.out, if_neg (by omega), if_neg (by omega)]
          clear HD
          go_wp2
          go_ret
          rw [HE.out]
          exact ⟨rfl, HK.out⟩
      · have HE : Hid (r = 0) := by unfold Hid; rw [HD.out, if_neg (by omega), if_neg (by omega)]
        clear HD
        go_wp2
        go_ret
        rw [HE.out]
        exact ⟨rfl, HK.out⟩
end Go.Proofs.YtbcmnhbpomjinaaGreat

/- Where a spot is: what the program reckons is where the point is beside the ring that is drawn out. -/
namespace Go.Proofs.YtbcmnhbpomjinaaGreat

/-- What the program reckons of a ring and a spot. -/
def spS (r : List (Int × Int)) (x y m : Int) : Int := if (edg r).any (fun e => spOn e.1 e.2 x y m) = true then 0 else if sumL (fun e => spP e.1 e.2 x y m) (edg r) = 1 then 1 else -1
theorem spS_on {r : List (Int × Int)} {x y m : Int} {e : (Int × Int) × (Int × Int)} (he : e ∈ edg r) (h : spOn e.1 e.2 x y m = true) : spS r x y m = 0 := by
  unfold spS; rw [if_pos (List.any_eq_true.2 ⟨e, he, h⟩)]
theorem spS_off {r : List (Int × Int)} {x y m : Int} (h : ∀ e ∈ edg r, spOn e.1 e.2 x y m = false) : spS r x y m = if sumL (fun e => spP e.1 e.2 x y m) (edg r) = 1 then 1 else -1 := by
  unfold spS
  rw [if_neg]
  intro h1
  obtain ⟨e, he, h2⟩ := List.any_eq_true.1 h1
  rw [h e he] at h2; cases h2
theorem wind_edg (r : List (Int × Int)) (z : Int × Int) : wind r z = sumL (fun e => psv e.1 e.2 z) (edg r) := by
  rw [sumL_edg]; rfl
theorem spS_side {r : List (Int × Int)} (hs : Sound r) {x y m : Int} (hm : 1 ≤ m) : spS r x y m = side (mulR m r) (x, y) := by
  have hS : Sound (mulR m r) := sound_mulR (by omega) hs
  rw [← sideW_side hS]
  have hrim : onRim (mulR m r) (x, y) ↔ (edg r).any (fun e => spOn e.1 e.2 x y m) = true := by
    rw [onRim_edg, edg_mulR, List.any_eq_true]
    simp only [List.mem_map]
    constructor
    · rintro ⟨_, ⟨e, he, rfl⟩, h⟩
      exact ⟨e, he, (spOn_iff hm).2 h⟩
    · rintro ⟨e, he, h⟩
      exact ⟨_, ⟨e, he, rfl⟩, (spOn_iff hm).1 h⟩
  have hw : wind (mulR m r) (x, y) = sumL (fun e => spP e.1 e.2 x y m) (edg r) := by
    rw [wind_edg, edg_mulR, sumL_map]
    exact sumL_ext fun e _ => (spP_psv hm).symm
  unfold spS sideW
  by_cases h : onRim (mulR m r) (x, y)
  · rw [if_pos h, if_pos (hrim.1 h)]
  · rw [if_neg h, if_neg (fun h1 => h (hrim.2 h1)), hw]
theorem spP_lim (a b : Int × Int) (x y m : Int) : -1 ≤ spP a b x y m ∧ spP a b x y m ≤ 1 := by
  unfold spP; split
  · omega
  · split <;> omega
theorem sumP_lim (x y m : Int) : ∀ l : List ((Int × Int) × (Int × Int)), -(l.length : Int) ≤ sumL (fun e => spP e.1 e.2 x y m) l ∧ sumL (fun e => spP e.1 e.2 x y m) l ≤ l.length
  | [] => by simp [sumL]
  | e :: l => by
    have h1 := spP_lim e.1 e.2 x y m
    have h2 := sumP_lim x y m l
    rw [List.length_cons]
    simp only [sumL]
    omega
theorem sumL_snoc {α : Type} (f : α → Int) (l : List α) (a : α) : sumL f (l ++ [a]) = sumL f l + f a := by
  rw [sumL_append]; simp [sumL]
theorem spS_vals (r : List (Int × Int)) (x y m : Int) : spS r x y m = 1 ∨ spS r x y m = 0 ∨ spS r x y m = -1 := by
  unfold spS; split
  · exact .inr (.inl rfl)
  · split
    · exact .inl rfl
    · exact .inr (.inr rfl)
end Go.Proofs.YtbcmnhbpomjinaaGreat
