/- Plain facts on rings of points: a corner more on an edge, and rings moved as a whole. No program is named here. -/
import Derived.Test.YtkkdjbmdfpmkpaaRim
namespace Go.Proofs.Ytkkdjbmdfpmkpaa

/-- Moved. -/
def mvd (d p : Int × Int) : Int × Int := (p.1 + d.1, p.2 + d.2)
theorem crs_mvd (d a b c : Int × Int) : crs (mvd d a) (mvd d b) (mvd d c) = crs a b c := by unfold crs mvd; grind
theorem crs0_mvd (d a b : Int × Int) : crs0 (mvd d a) (mvd d b) = crs0 a b + ((d.1 * b.2 - d.2 * b.1) - (d.1 * a.2 - d.2 * a.1)) := by unfold crs0 mvd; grind
theorem mvd_inj {d a b : Int × Int} : mvd d a = mvd d b ↔ a = b := by
  unfold mvd
  constructor
  · intro h
    have h1 := congrArg Prod.fst h
    have h2 := congrArg Prod.snd h
    simp only at h1 h2
    exact Prod.ext (by omega) (by omega)
  · rintro rfl; rfl
theorem on_mvd {d a b p : Int × Int} : OnS (mvd d a) (mvd d b) (mvd d p) ↔ OnS a b p := by
  unfold OnS
  rw [crs_mvd]
  unfold btw mvd
  simp only
  omega
theorem meet_mvd (d a b c e : Int × Int) : meet (mvd d a) (mvd d b) (mvd d c) (mvd d e) = meet a b c e := by
  refine meet_of ?_ ?_ ?_
  · unfold M3; simp only [on_mvd, ne_eq, mvd_inj]
  · unfold M1; simp only [on_mvd]
  · unfold XX; simp only [crs_mvd]
theorem cutB_mvd (d a b p : Int × Int) : cutB (mvd d a) (mvd d b) (mvd d p) = cutB a b p := by
  have e : ∀ x y : Int × Int, (mvd d x).2 < (mvd d y).2 ↔ x.2 < y.2 := fun x y => by unfold mvd; simp only; omega
  have e' : ∀ x y : Int × Int, (mvd d x).2 ≤ (mvd d y).2 ↔ x.2 ≤ y.2 := fun x y => by unfold mvd; simp only; omega
  unfold cutB
  simp only [e, e', crs_mvd]
theorem tele (g : Nat → Int) : ∀ n, sumTo (fun i => g (i + 1) - g i) n = g n - g 0
  | 0 => by simp [sumTo]
  | n + 1 => by rw [sumTo, tele g n]; omega
/-- A ring moved as a whole. -/
theorem shifts {r s : List (Int × Int)} (d : Int × Int) (hl : s.length = r.length) (hs : ∀ i, 0 < r.length → nx s i = mvd d (nx r i)) : area s = area r ∧ (Sound s ↔ Sound r) ∧ ∀ p, side s (mvd d p) = side r p := by
  by_cases h0 : r.length = 0
  · have h1 : s.length = 0 := hl.trans h0
    refine ⟨by unfold area; rw [h0, h1]; rfl, by unfold Sound; rw [h0, h1]; constructor <;> (rintro ⟨h, -⟩; omega), fun p => ?_⟩
    have e : ∀ (l : List (Int × Int)) x, l.length = 0 → side l x = -1 := fun l x hl => by
      unfold side onRim
      rw [hl, if_neg (by rintro ⟨i, hi, -⟩; omega)]
      rfl
    rw [e _ _ h0, e _ _ h1]
  replace hs := fun i => hs i (by omega)
  have ha : area s = area r := by
    unfold area
    rw [hl]
    have e : sumTo (fun i => crs0 (nx s i) (nx s (i + 1))) r.length = sumTo (fun i => crs0 (nx r i) (nx r (i + 1)) + ((fun j => d.1 * (nx r j).2 - d.2 * (nx r j).1) (i + 1) - (fun j => d.1 * (nx r j).2 - d.2 * (nx r j).1) i)) r.length :=
      sumTo_ext _ fun i _ => by rw [hs, hs, crs0_mvd]
    rw [e, sumTo_add, tele (fun j => d.1 * (nx r j).2 - d.2 * (nx r j).1)]
    have hp : nx r r.length = nx r 0 := by have := nx_per r 0; rwa [Nat.zero_add] at this
    simp only [hp]
    omega
  have hap : ∀ i j, Apart s i j ↔ Apart r i j := by
    intro i j
    unfold Apart
    rw [hs, hs, hs, hs, hl, meet_mvd]
    simp only [ne_eq, mvd_inj]
  refine ⟨ha, ?_, fun p => ?_⟩
  · unfold Sound
    rw [hl, ha]
    simp only [hap]
  · have ho : onRim s (mvd d p) ↔ onRim r p := by
      unfold onRim
      rw [hl]
      simp only [hs, on_mvd]
    have hd : oddTo (fun i => cutB (nx s i) (nx s (i + 1)) (mvd d p)) s.length = oddTo (fun i => cutB (nx r i) (nx r (i + 1)) p) r.length := by
      rw [hl]
      exact oddTo_ext _ fun i _ => by rw [hs, hs, cutB_mvd]
    unfold side
    rw [hd]
    by_cases h : onRim r p
    · rw [if_pos (ho.2 h), if_pos h]
    · rw [if_neg (fun e => h (ho.1 e)), if_neg h]

section
variable {a b c d p q : Int × Int}
/-- A point within a stretch: what it is of the way, and the signs. -/
theorem inner_sign (h : OnS a b p) (ha : p ≠ a) (hb : p ≠ b) (q : Int × Int) : (0 < crs a p q ↔ 0 < crs a b q) ∧ (0 < crs p b q ↔ 0 < crs a b q) ∧ (crs a p q < 0 ↔ crs a b q < 0) ∧ (crs p b q < 0 ↔ crs a b q < 0) := by
  have hab : a ≠ b := fun e => by subst e; exact ha (on_same h)
  obtain ⟨N, t, hN, h0, h1, e1, e2⟩ := on_part h hab
  obtain ⟨k1, k2⟩ := not_end hN e1 e2
  have ht : 0 < t := by
    by_cases ht : t = 0
    · exact absurd (k1 ht) ha
    · omega
  have ht' : 0 < N - t := by
    by_cases ht : t = N
    · exact absurd (k2 ht) hb
    · omega
  obtain ⟨c1, c2⟩ := crs_part2 e1 e2 q
  have s1 := same_sign hN ht c1
  have s2 := same_sign ht hN c1.symm
  have s3 := same_sign hN ht' c2
  have s4 := same_sign ht' hN c2.symm
  exact ⟨⟨s2.2, s1.2⟩, ⟨s4.2, s3.2⟩, ⟨s2.1, s1.1⟩, ⟨s4.1, s3.1⟩⟩
theorem cutB_split (h : OnS a b p) (ha : p ≠ a) (hb : p ≠ b) (q : Int × Int) : cutB a b q = (cutB a p q ^^ cutB p b q) := by
  obtain ⟨s1, s2, s3, s4⟩ := inner_sign h ha hb q
  have hy := h.2.2
  unfold btw at hy
  have t1 : 0 < crs p a q ↔ 0 < crs b a q := by rw [crs_turn a p, crs_turn a b]; omega
  have t2 : 0 < crs b p q ↔ 0 < crs b a q := by rw [crs_turn p b, crs_turn a b]; omega
  unfold cutB
  simp only [s1, s2, t1, t2]
  by_cases hc : b.2 < a.2
  · rw [if_pos hc]
    by_cases h0 : 0 < crs b a q
    · by_cases h1 : p.2 < a.2 <;> by_cases h2 : b.2 < p.2
      · rw [if_pos h1, if_pos h2]
        by_cases k1 : b.2 ≤ q.2 <;> by_cases k2 : q.2 < a.2 <;> by_cases k3 : p.2 ≤ q.2 <;> by_cases k4 : q.2 < p.2 <;> simp [h0, k1, k2, k3, k4] <;> omega
      · rw [if_pos h1, if_neg h2]
        have : p.2 = b.2 := by omega
        rw [this]
        by_cases k1 : b.2 ≤ q.2 <;> by_cases k2 : q.2 < a.2 <;> simp [h0, k1, k2] <;> omega
      · rw [if_neg h1, if_pos h2]
        have : p.2 = a.2 := by omega
        rw [this]
        by_cases k1 : b.2 ≤ q.2 <;> by_cases k2 : q.2 < a.2 <;> by_cases k3 : a.2 ≤ q.2 <;> simp [h0, k1, k2, k3] <;> omega
      · omega
    · have hn : ¬ 0 < crs a b q ∨ q.2 < a.2 ∨ a.2 ≤ q.2 := by omega
      by_cases h1 : p.2 < a.2 <;> by_cases h2 : b.2 < p.2
      · rw [if_pos h1, if_pos h2]; simp [h0]
      · rw [if_pos h1, if_neg h2]
        have : p.2 = b.2 := by omega
        rw [this]; simp [h0]; omega
      · rw [if_neg h1, if_pos h2]
        have : p.2 = a.2 := by omega
        rw [this]; simp [h0]; omega
      · omega
  · rw [if_neg hc]
    have h1 : ¬ p.2 < a.2 := by omega
    have h2 : ¬ b.2 < p.2 := by omega
    rw [if_neg h1, if_neg h2]
    by_cases h0 : 0 < crs a b q
    · by_cases k1 : a.2 ≤ q.2 <;> by_cases k2 : q.2 < b.2 <;> by_cases k3 : p.2 ≤ q.2 <;> by_cases k4 : q.2 < p.2 <;> simp [h0, k1, k2, k3, k4] <;> omega
    · simp [h0]
/-- What another stretch has in common with the parts of one that a point cuts in two. -/
theorem sub_none (h : OnS a b p) (h0 : meet c d a b = 0) : meet c d a p = 0 ∧ meet c d p b = 0 := by
  have b1 := meet_bound (a := c) (b := d) (c := a) (d := p)
  have b2 := meet_bound (a := c) (b := d) (c := p) (d := b)
  rw [← meet_swap] at h0
  constructor
  · have : ¬ 0 < meet a p c d := fun e => by have := part_whole h e; omega
    rw [meet_swap] at this; omega
  · have : ¬ 0 < meet p b c d := fun e => by have := part_whole' h e; omega
    rw [meet_swap] at this; omega
theorem meet_one_iff : meet a b c d = 1 ↔ M1 a b c d ∧ ¬ M3 a b c d := by
  constructor
  · intro h
    unfold meet at h
    split at h
    · omega
    · rename_i h3
      split at h
      · rename_i h1; exact ⟨h1, h3⟩
      · split at h <;> omega
  · rintro ⟨h1, h3⟩; exact meet_one h1 h3
theorem not_far (h : OnS a b p) (hb : p ≠ b) : ¬ OnS a p b := fun e => hb (on_both h e (on_right p b)).symm
theorem not_near (h : OnS a b p) (ha : p ≠ a) : ¬ OnS p b a := fun e => ha (on_both h (on_left a p) e).symm
/-- The stretch that ends where this one begins. -/
theorem sub_left (h : OnS a b p) (ha : p ≠ a) (h1 : meet c a a b = 1) : meet c a a p = 1 ∧ meet c a p b = 0 := by
  obtain ⟨k1, k3⟩ := meet_one_iff.1 h1
  have nx3 : ∀ x y, x ≠ y → OnS c a x → OnS a b x → OnS c a y → OnS a b y → False := fun x y hxy u1 u2 u3 u4 => k3 (M3_iff.2 ⟨x, y, hxy, u1, u2, u3, u4⟩)
  constructor
  · refine meet_one (Or.inr (Or.inl (on_left a p))) fun hm => ?_
    obtain ⟨x, y, hxy, u1, u2, u3, u4⟩ := M3_iff.1 hm
    exact nx3 x y hxy u1 (on_trans h u2) u3 (on_trans h u4)
  · have bd := meet_bound (a := c) (b := a) (c := p) (d := b)
    have : ¬ 0 < meet c a p b := fun e => by
      rcases meet_pos.1 e with hm | ⟨-, hx⟩
      · obtain ⟨x, -, u1, u2⟩ := M1_iff.1 hm
        exact nx3 x a (fun e => not_near h ha (e ▸ u2)) u1 (on_trans' h u2) (on_right c a) (on_left a b)
      · have hz : crs p b a = 0 := by have := h.1; rw [crs_round]; exact (by rw [← crs_round, ← crs_round] at this; rw [crs_round]; have e := crs_turn a b p; unfold crs at *; grind)
        rw [hz, Int.mul_zero] at hx; omega
    omega
theorem sub_right (h : OnS a b p) (hb : p ≠ b) (h1 : meet b d a b = 1) : meet b d p b = 1 ∧ meet b d a p = 0 := by
  have h' := on_turn.2 h
  have e1 : meet d b b a = 1 := by rw [meet_turn, ← meet_swap, meet_turn, meet_swap]; exact h1
  obtain ⟨k1, k2⟩ := sub_left h' hb e1
  constructor
  · rw [← k1, meet_turn, ← meet_swap, meet_turn, meet_swap]
  · rw [← k2, meet_turn, ← meet_swap, meet_turn, meet_swap]
/-- The point that cuts a stretch is no corner of another one, unless both have it in common. -/
theorem not_corner (h : OnS a b p) (h0 : meet c d a b = 0) : c ≠ p := fun e => by
  subst e
  have : 0 < meet c d a b := meet_pos.2 (one_common (on_left c d) h)
  omega
theorem not_corner' (h : OnS a b p) (hca : c ≠ a) (h1 : meet c a a b = 1) : c ≠ p := fun e => by
  subst e
  exact (meet_one_iff.1 h1).2 (M3_iff.2 ⟨c, a, hca, on_left c a, h, on_right c a, on_left a b⟩)
end

/-- A corner more on the edge from the last corner to the first. -/
theorem marks {r s : List (Int × Int)} {p : Int × Int} (hr : Sound r) (hl : s.length = r.length + 1) (hs : ∀ i, i < r.length → nx s i = nx r i) (hp : nx s r.length = p)
    (hon : OnS (nx r (r.length - 1)) (nx r 0) p) (ha : p ≠ nx r (r.length - 1)) (hb : p ≠ nx r 0) : area s = area r ∧ Sound s ∧ ∀ q, side s q = side r q := by
  obtain ⟨hn, har, hap⟩ := sound_iff.1 hr
  obtain ⟨m, hm⟩ : ∃ m, r.length = m + 1 := ⟨r.length - 1, by omega⟩
  have hr0 : nx r (m + 1) = nx r 0 := by have := nx_per r 0; rwa [Nat.zero_add, hm] at this
  have hs0 : nx s (m + 1 + 1) = nx r 0 := by have := nx_per s 0; rw [Nat.zero_add, hl, hm, hs 0 (by omega)] at this; exact this
  rw [hm, Nat.add_sub_cancel] at hon ha
  rw [hm] at hs hp hn hl hap
  have hsm := hs m (by omega)
  have h1 : ∀ i, i < m → nx s i = nx r i ∧ nx s (i + 1) = nx r (i + 1) := fun i hi => ⟨hs i (by omega), hs (i + 1) (by omega)⟩
  have harea : area s = area r := by
    unfold area
    rw [hl, hm, sumTo, sumTo, sumTo]
    rw [sumTo_ext (f := fun i => crs0 (nx s i) (nx s (i + 1))) (g := fun i => crs0 (nx r i) (nx r (i + 1))) m (fun i hi => by rw [(h1 i hi).1, (h1 i hi).2])]
    rw [hsm, hp, hs0, hr0]
    have := crs_crs0 (nx r m) (nx r 0) p
    rw [hon.1] at this
    have t1 := crs0_turn p (nx r m)
    have t2 := crs0_turn (nx r 0) p
    omega
  refine ⟨harea, ?_, fun q => ?_⟩
  · rw [sound_iff, harea, hl]
    refine ⟨by omega, har, fun i j hij hj => ?_⟩
    have hbad : ∀ i, i < m → nx r i ≠ p := by
      intro i hi
      have hA := hap i m hi (by omega)
      unfold Apart at hA
      rw [hm, adj_lt hn hi (by omega), hr0] at hA
      by_cases h2 : m = i + 1
      · have := hA.2.1 (.inl h2)
        rw [← h2] at this
        exact not_corner' hon hA.1 this
      · by_cases h3 : i = 0
        · subst h3; exact hb.symm
        · exact not_corner hon (hA.2.2 (by omega))
    unfold Apart
    rw [hl, adj_lt (by omega) hij hj]
    by_cases hjm : j < m
    · have hA := hap i j hij (by omega)
      unfold Apart at hA
      rw [hm, adj_lt hn hij (by omega)] at hA
      rw [(h1 i (by omega)).1, (h1 i (by omega)).2, (h1 j hjm).1, (h1 j hjm).2]
      exact ⟨hA.1, fun e => hA.2.1 (by omega), fun e => hA.2.2 (by omega)⟩
    · by_cases hjm' : j = m
      · subst hjm'
        have hA := hap i j hij (by omega)
        unfold Apart at hA
        rw [hm, adj_lt hn hij (by omega), hr0] at hA
        rw [(h1 i hij).1, (h1 i hij).2, hsm, hp]
        refine ⟨hA.1, fun e => ?_, fun e => ?_⟩
        · have e : j = i + 1 := by omega
          have := hA.2.1 (.inl e)
          rw [← e] at this ⊢
          exact (sub_left hon ha this).1
        · by_cases h3 : i = 0
          · subst h3
            exact (sub_right hon hb (hA.2.1 (.inr ⟨rfl, rfl⟩))).2
          · exact (sub_none hon (hA.2.2 (by omega))).1
      · have hj2 : j = m + 1 := by omega
        subst hj2
        rw [hp, hs0]
        by_cases him : i = m
        · subst him
          rw [hsm, hp]
          refine ⟨ha.symm, fun _ => (meet_parts (c := nx r 0) (d := nx r 0) hon).2.1, fun e => absurd (.inl rfl) e⟩
        · have hi : i < m := by omega
          have hA := hap i m hi (by omega)
          unfold Apart at hA
          rw [hm, adj_lt hn hi (by omega), hr0] at hA
          rw [(h1 i hi).1, (h1 i hi).2]
          refine ⟨hbad i hi, fun e => ?_, fun e => ?_⟩
          · have h3 : i = 0 := by omega
            subst h3
            exact (sub_right hon hb (hA.2.1 (.inr ⟨rfl, rfl⟩))).1
          · by_cases h2 : m = i + 1
            · have := hA.2.1 (.inl h2)
              rw [← h2] at this ⊢
              exact (sub_left hon ha this).2
            · exact (sub_none hon (hA.2.2 (by omega))).2
  · have ho : onRim s q ↔ onRim r q := by
      unfold onRim
      rw [hl, hm]
      constructor
      · rintro ⟨i, hi, h⟩
        by_cases h2 : i < m
        · rw [(h1 i h2).1, (h1 i h2).2] at h
          exact ⟨i, by omega, h⟩
        · refine ⟨m, by omega, ?_⟩
          rw [hr0]
          by_cases h3 : i = m
          · subst h3
            rw [hsm, hp] at h
            exact on_trans hon h
          · have : i = m + 1 := by omega
            subst this
            rw [hp, hs0] at h
            exact on_trans' hon h
      · rintro ⟨i, hi, h⟩
        by_cases h2 : i < m
        · exact ⟨i, by omega, by rw [(h1 i h2).1, (h1 i h2).2]; exact h⟩
        · have : i = m := by omega
          subst this
          rw [hr0] at h
          rcases on_split hon h with h | h
          · exact ⟨i, by omega, by rw [hsm, hp]; exact h⟩
          · exact ⟨i + 1, by omega, by rw [hp, hs0]; exact h⟩
    have hd : oddTo (fun i => cutB (nx s i) (nx s (i + 1)) q) s.length = oddTo (fun i => cutB (nx r i) (nx r (i + 1)) q) r.length := by
      rw [hl, hm, oddTo, oddTo, oddTo]
      rw [oddTo_ext (f := fun i => cutB (nx s i) (nx s (i + 1)) q) (g := fun i => cutB (nx r i) (nx r (i + 1)) q) m (fun i hi => by rw [(h1 i hi).1, (h1 i hi).2])]
      rw [hsm, hp, hs0, hr0, cutB_split hon ha hb q, Bool.xor_assoc]
    unfold side
    rw [hd]
    by_cases h : onRim r q
    · rw [if_pos (ho.2 h), if_pos h]
    · rw [if_neg (fun e => h (ho.1 e)), if_neg h]
end Go.Proofs.Ytkkdjbmdfpmkpaa
