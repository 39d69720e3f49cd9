/- Plain facts on points and stretches with whole coordinates. No program is named here. -/
import Derived.Test.YtkkdjbmdfpmkpaaPlain
namespace Go.Proofs.Ytkkdjbmdfpmkpaa

def crs (a b c : Int × Int) : Int := (b.1 - a.1) * (c.2 - a.2) - (b.2 - a.2) * (c.1 - a.1)
def btw (a b n : Int) : Prop := (a ≤ n ∧ n ≤ b) ∨ (b ≤ n ∧ n ≤ a)
def OnS (a b p : Int × Int) : Prop := crs a b p = 0 ∧ btw a.1 b.1 p.1 ∧ btw a.2 b.2 p.2
def flip (p : Int × Int) : Int × Int := (p.2, p.1)

theorem crs_turn (a b c : Int × Int) : crs b a c = -crs a b c := by unfold crs; grind
theorem crs_round (a b c : Int × Int) : crs b c a = crs a b c := by unfold crs; grind
theorem crs_flip (a b c : Int × Int) : crs (flip a) (flip b) (flip c) = -crs a b c := by unfold crs flip; grind
theorem crs_aab (a b : Int × Int) : crs a a b = 0 := by unfold crs; grind
theorem crs_aba (a b : Int × Int) : crs a b a = 0 := by unfold crs; grind
theorem crs_abb (a b : Int × Int) : crs a b b = 0 := by unfold crs; grind
theorem crs_sum (a b c d : Int × Int) : crs a b c = crs d a b + crs d b c + crs d c a := by unfold crs; grind
theorem btw_turn {a b n : Int} : btw b a n ↔ btw a b n := by unfold btw; omega
theorem on_turn {a b p : Int × Int} : OnS b a p ↔ OnS a b p := by
  unfold OnS
  rw [crs_turn a b p]
  constructor
  · rintro ⟨h1, h2, h3⟩; exact ⟨by omega, btw_turn.1 h2, btw_turn.1 h3⟩
  · rintro ⟨h1, h2, h3⟩; exact ⟨by omega, btw_turn.1 h2, btw_turn.1 h3⟩
theorem on_flip {a b p : Int × Int} : OnS (flip a) (flip b) (flip p) ↔ OnS a b p := by
  unfold OnS
  rw [crs_flip]
  unfold flip
  constructor
  · rintro ⟨h1, h2, h3⟩; exact ⟨by omega, h3, h2⟩
  · rintro ⟨h1, h2, h3⟩; exact ⟨by omega, h3, h2⟩
theorem on_left (a b : Int × Int) : OnS a b a := ⟨crs_aba a b, by unfold btw; omega, by unfold btw; omega⟩
theorem on_right (a b : Int × Int) : OnS a b b := ⟨crs_abb a b, by unfold btw; omega, by unfold btw; omega⟩

/-- A point of a stretch, as so much of the way. -/
theorem on_part {a b p : Int × Int} (h : OnS a b p) (hab : a ≠ b) : ∃ N t : Int, 0 < N ∧ 0 ≤ t ∧ t ≤ N ∧ N * (p.1 - a.1) = t * (b.1 - a.1) ∧ N * (p.2 - a.2) = t * (b.2 - a.2) := by
  obtain ⟨h0, h1, h2⟩ := h
  obtain ⟨a1, a2⟩ := a
  obtain ⟨b1, b2⟩ := b
  obtain ⟨p1, p2⟩ := p
  unfold crs at h0
  unfold btw at h1 h2
  simp only at *
  by_cases hx : a1 = b1
  · subst hx
    have hy : a2 ≠ b2 := fun e => hab (by rw [e])
    have hp : p1 = a1 := by omega
    subst hp
    rcases h2 with h2 | h2
    · exact ⟨b2 - a2, p2 - a2, by omega, by omega, by omega, by grind, by grind⟩
    · exact ⟨a2 - b2, a2 - p2, by omega, by omega, by omega, by grind, by grind⟩
  · rcases h1 with h1 | h1
    · exact ⟨b1 - a1, p1 - a1, by omega, by omega, by omega, by grind, by grind⟩
    · exact ⟨a1 - b1, a1 - p1, by omega, by omega, by omega, by grind, by grind⟩
theorem crs_part {a b p : Int × Int} {N t : Int} (h1 : N * (p.1 - a.1) = t * (b.1 - a.1)) (h2 : N * (p.2 - a.2) = t * (b.2 - a.2)) (c d : Int × Int) : N * crs c d p = (N - t) * crs c d a + t * crs c d b := by
  unfold crs; grind
theorem crs_part2 {a b p : Int × Int} {N t : Int} (h1 : N * (p.1 - a.1) = t * (b.1 - a.1)) (h2 : N * (p.2 - a.2) = t * (b.2 - a.2)) (c : Int × Int) : N * crs a p c = t * crs a b c ∧ N * crs p b c = (N - t) * crs a b c := by
  unfold crs
  constructor <;> grind

theorem par_cross {w1 w2 r1 r2 s1 s2 : Int} (hw : w1 ≠ 0 ∨ w2 ≠ 0) (hr : w1 * r2 = w2 * r1) (hs : w1 * s2 = w2 * s1) : r1 * s2 - r2 * s1 = 0 := by
  have e1 : w1 * (r1 * s2 - r2 * s1) = 0 := by grind
  have e2 : w2 * (r1 * s2 - r2 * s1) = 0 := by grind
  rcases hw with hw | hw
  · exact (Int.mul_eq_zero.1 e1).resolve_left hw
  · exact (Int.mul_eq_zero.1 e2).resolve_left hw
theorem ne_parts {a b : Int × Int} (h : a ≠ b) : b.1 - a.1 ≠ 0 ∨ b.2 - a.2 ≠ 0 := by
  by_cases h1 : a.1 = b.1
  · right
    intro h2
    exact h (Prod.ext h1 (by omega))
  · left; omega
/-- Three points of one way are in line. -/
theorem line3 {c d x y z : Int × Int} (h : c ≠ d) (hx : crs c d x = 0) (hy : crs c d y = 0) (hz : crs c d z = 0) : crs x y z = 0 := by
  unfold crs at *
  have := par_cross (r1 := y.1 - x.1) (r2 := y.2 - x.2) (s1 := z.1 - x.1) (s2 := z.2 - x.2) (ne_parts h) (by grind) (by grind)
  omega
theorem mono {K L x y s t : Int} (hK : K ≠ 0) (h1 : K * x = L * s) (h2 : K * y = L * t) (h : btw 0 t s) : btw 0 y x := by
  have key : ∀ K L x y s t : Int, 0 < K → K * x = L * s → K * y = L * t → 0 ≤ s → s ≤ t → btw 0 y x := by
    intro K L x y s t hK h1 h2 hs ht
    rcases Int.le_total 0 L with hL | hL
    · have a1 : 0 ≤ K * x := by rw [h1]; exact Int.mul_nonneg hL hs
      have a2 : K * x ≤ K * y := by rw [h1, h2]; exact Int.mul_le_mul_of_nonneg_left ht hL
      left
      exact ⟨by by_cases hx : 0 ≤ x; exact hx; exact absurd (Int.mul_neg_of_pos_of_neg hK (by omega : x < 0)) (by omega), Int.le_of_mul_le_mul_left a2 hK⟩
    · have hL' : 0 ≤ -L := by omega
      have a1 : 0 ≤ (-L) * s := Int.mul_nonneg hL' hs
      have a2 : (-L) * s ≤ (-L) * t := Int.mul_le_mul_of_nonneg_left ht hL'
      have e1 : K * (-x) = (-L) * s := by grind
      have e2 : K * (-y) = (-L) * t := by grind
      rw [← e1] at a1 a2
      rw [← e2] at a2
      right
      exact ⟨by have := Int.le_of_mul_le_mul_left a2 hK; omega, by by_cases hx : x ≤ 0; exact hx; exact absurd (Int.mul_neg_of_pos_of_neg hK (by omega : -x < 0)) (by omega)⟩
  rcases h with ⟨h, h'⟩ | ⟨h, h'⟩
  · rcases Int.lt_or_gt_of_ne hK with hn | hp
    · exact key (-K) (-L) x y s t (by omega) (by grind) (by grind) h h'
    · exact key K L x y s t hp h1 h2 h h'
  · rcases Int.lt_or_gt_of_ne hK with hn | hp
    · exact key (-K) L x y (-s) (-t) (by omega) (by grind) (by grind) (by omega) (by omega)
    · exact key K (-L) x y (-s) (-t) hp (by grind) (by grind) (by omega) (by omega)
theorem line_first {u v : Int × Int} (h : u.1 ≠ v.1) : (∀ a b p, crs u v a = 0 → crs u v b = 0 → crs u v p = 0 → (OnS a b p ↔ btw a.1 b.1 p.1)) ∧ (∀ a b, crs u v a = 0 → crs u v b = 0 → (a.1 = b.1 ↔ a = b)) := by
  have huv : u ≠ v := fun e => h (by rw [e])
  constructor
  · intro a b p ha hb hp
    refine ⟨fun H => H.2.1, fun H => ⟨line3 huv ha hb hp, H, ?_⟩⟩
    unfold crs at ha hb hp
    have := mono (K := v.1 - u.1) (L := v.2 - u.2) (x := p.2 - a.2) (y := b.2 - a.2) (s := p.1 - a.1) (t := b.1 - a.1) (by omega) (by grind) (by grind) (by unfold btw at H ⊢; omega)
    unfold btw at this ⊢
    omega
  · intro a b ha hb
    refine ⟨fun e => Prod.ext e ?_, fun e => by rw [e]⟩
    unfold crs at ha hb
    have e1 : (v.1 - u.1) * a.2 = (v.1 - u.1) * b.2 := by grind
    exact Int.eq_of_mul_eq_mul_left (by omega) e1
/-- On one way points are told by one number. -/
theorem line_on {u v : Int × Int} (h : u ≠ v) : ∃ f : Int × Int → Int, (∀ a b p, crs u v a = 0 → crs u v b = 0 → crs u v p = 0 → (OnS a b p ↔ btw (f a) (f b) (f p))) ∧ (∀ a b, crs u v a = 0 → crs u v b = 0 → (f a = f b ↔ a = b)) := by
  by_cases h1 : u.1 = v.1
  · have h2 : (flip u).1 ≠ (flip v).1 := fun e => h (Prod.ext h1 e)
    obtain ⟨k1, k2⟩ := line_first h2
    refine ⟨fun p => p.2, fun a b p ha hb hp => ?_, fun a b ha hb => ?_⟩
    · rw [← on_flip]
      exact k1 (flip a) (flip b) (flip p) (by rw [crs_flip]; omega) (by rw [crs_flip]; omega) (by rw [crs_flip]; omega)
    · have := k2 (flip a) (flip b) (by rw [crs_flip]; omega) (by rw [crs_flip]; omega)
      exact this.trans ⟨fun e => Prod.ext (congrArg Prod.snd e) (congrArg Prod.fst e), fun e => by rw [e]⟩
  · exact ⟨fun p => p.1, line_first h1⟩

theorem on_same {a x : Int × Int} (h : OnS a a x) : x = a := by
  obtain ⟨-, h1, h2⟩ := h
  unfold btw at h1 h2
  exact Prod.ext (by omega) (by omega)
theorem on_split {a b p x : Int × Int} (hp : OnS a b p) (hx : OnS a b x) : OnS a p x ∨ OnS p b x := by
  by_cases h : a = b
  · subst h
    rw [on_same hp, on_same hx]
    exact Or.inl (on_left a a)
  · obtain ⟨f, f1, -⟩ := line_on h
    have ca := crs_aba a b
    have cb := crs_abb a b
    have k1 := (f1 a b p ca cb hp.1).1 hp
    have k2 := (f1 a b x ca cb hx.1).1 hx
    rw [f1 a p x ca hp.1 hx.1, f1 p b x hp.1 cb hx.1]
    unfold btw at *
    omega
theorem on_trans {a b p x : Int × Int} (hp : OnS a b p) (hx : OnS a p x) : OnS a b x := by
  by_cases h : a = p
  · subst h
    rw [on_same hx]
    exact on_left a b
  · obtain ⟨f, f1, -⟩ := line_on h
    have ca := crs_aba a p
    have cp := crs_abb a p
    have cb : crs a p b = 0 := by have := hp.1; unfold crs at *; grind
    have k1 := (f1 a b p ca cb cp).1 hp
    have k2 := (f1 a p x ca cp hx.1).1 hx
    rw [f1 a b x ca cb hx.1]
    unfold btw at *
    omega
theorem on_trans' {a b p x : Int × Int} (hp : OnS a b p) (hx : OnS p b x) : OnS a b x := on_turn.1 (on_trans (on_turn.1 hp) (on_turn.1 hx))
theorem on_both {a b p x : Int × Int} (hp : OnS a b p) (h1 : OnS a p x) (h2 : OnS p b x) : x = p := by
  by_cases h : a = b
  · subst h
    have e := on_same hp
    subst e
    exact on_same h1
  · obtain ⟨f, f1, f2⟩ := line_on h
    have ca := crs_aba a b
    have cb := crs_abb a b
    have hx := (on_trans hp h1).1
    have k1 := (f1 a b p ca cb hp.1).1 hp
    have k2 := (f1 a p x ca hp.1 hx).1 h1
    have k3 := (f1 p b x hp.1 cb hx).1 h2
    refine (f2 x p hx hp.1).1 ?_
    unfold btw at *
    omega

/-- What two stretches have in common: an end of one of them; two points; a point within both. -/
def M1 (a b c d : Int × Int) : Prop := OnS c d a ∨ OnS c d b ∨ OnS a b c ∨ OnS a b d
def M3 (a b c d : Int × Int) : Prop := (OnS c d a ∧ OnS c d b ∧ a ≠ b) ∨ (OnS c d a ∧ OnS a b c ∧ a ≠ c) ∨ (OnS c d a ∧ OnS a b d ∧ a ≠ d) ∨ (OnS c d b ∧ OnS a b c ∧ b ≠ c) ∨ (OnS c d b ∧ OnS a b d ∧ b ≠ d) ∨ (OnS a b c ∧ OnS a b d ∧ c ≠ d)
def XX (a b c d : Int × Int) : Prop := crs a b c * crs a b d < 0 ∧ crs c d a * crs c d b < 0

theorem two_common {a b c d x y : Int × Int} (hne : x ≠ y) (h1 : OnS a b x) (h2 : OnS c d x) (h3 : OnS a b y) (h4 : OnS c d y) : M3 a b c d := by
  have hab : a ≠ b := fun e => by subst e; exact hne ((on_same h1).trans (on_same h3).symm)
  have hcd : c ≠ d := fun e => by subst e; exact hne ((on_same h2).trans (on_same h4).symm)
  have ca := line3 hab h1.1 h3.1 (crs_aba a b)
  have cb := line3 hab h1.1 h3.1 (crs_abb a b)
  have cc := line3 hcd h2.1 h4.1 (crs_aba c d)
  have cd := line3 hcd h2.1 h4.1 (crs_abb c d)
  have cx := crs_aba x y
  have cy := crs_abb x y
  obtain ⟨f, f1, f2⟩ := line_on hne
  have k1 := (f1 a b x ca cb cx).1 h1
  have k2 := (f1 c d x cc cd cx).1 h2
  have k3 := (f1 a b y ca cb cy).1 h3
  have k4 := (f1 c d y cc cd cy).1 h4
  have kn : f x ≠ f y := fun e => hne ((f2 x y cx cy).1 e)
  have e1 := fun (u v : Int × Int) (hu : crs x y u = 0) (hv : crs x y v = 0) => not_congr (f2 u v hu hv)
  unfold M3
  rw [f1 c d a cc cd ca, f1 c d b cc cd cb, f1 a b c ca cb cc, f1 a b d ca cb cd]
  simp only [ne_eq]
  rw [← e1 a b ca cb, ← e1 a c ca cc, ← e1 a d ca cd, ← e1 b c cb cc, ← e1 b d cb cd, ← e1 c d cc cd]
  generalize f a = A at *
  generalize f b = B at *
  generalize f c = C at *
  generalize f d = D at *
  generalize f x = X at *
  generalize f y = Y at *
  unfold btw at *
  clear ca cb cc cd cx cy f1 f2 e1 h1 h2 h3 h4
  omega
theorem M3_iff {a b c d : Int × Int} : M3 a b c d ↔ ∃ x y, x ≠ y ∧ OnS a b x ∧ OnS c d x ∧ OnS a b y ∧ OnS c d y := by
  constructor
  · rintro (⟨h1, h2, h⟩ | ⟨h1, h2, h⟩ | ⟨h1, h2, h⟩ | ⟨h1, h2, h⟩ | ⟨h1, h2, h⟩ | ⟨h1, h2, h⟩)
    · exact ⟨a, b, h, on_left a b, h1, on_right a b, h2⟩
    · exact ⟨a, c, h, on_left a b, h1, h2, on_left c d⟩
    · exact ⟨a, d, h, on_left a b, h1, h2, on_right c d⟩
    · exact ⟨b, c, h, on_right a b, h1, h2, on_left c d⟩
    · exact ⟨b, d, h, on_right a b, h1, h2, on_right c d⟩
    · exact ⟨c, d, h, h1, on_left c d, h2, on_right c d⟩
  · rintro ⟨x, y, h, h1, h2, h3, h4⟩
    exact two_common h h1 h2 h3 h4
theorem M1_iff {a b c d : Int × Int} : M1 a b c d ↔ ∃ e, (e = a ∨ e = b ∨ e = c ∨ e = d) ∧ OnS a b e ∧ OnS c d e := by
  constructor
  · rintro (h | h | h | h)
    · exact ⟨a, by simp, on_left a b, h⟩
    · exact ⟨b, by simp, on_right a b, h⟩
    · exact ⟨c, by simp, h, on_left c d⟩
    · exact ⟨d, by simp, h, on_right c d⟩
  · rintro ⟨e, rfl | rfl | rfl | rfl, h1, h2⟩
    · exact Or.inl h2
    · exact Or.inr (Or.inl h2)
    · exact Or.inr (Or.inr (Or.inl h1))
    · exact Or.inr (Or.inr (Or.inr h1))
end Go.Proofs.Ytkkdjbmdfpmkpaa
