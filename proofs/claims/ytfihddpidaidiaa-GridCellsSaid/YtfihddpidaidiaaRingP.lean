/- The words in which layer ring's calls are said: what Area, Check, Side answer of any ring. -/
import Derived.Test.YtfihddpidaidiaaRefPar
import Derived.Test.YtfihddpidaidiaaRefSide
import Derived.Test.YtfihddpidaidiaaPlane
namespace Go.Proofs.Ytfihddpidaidiaa
open Go.RowKit

/-- What Area answers. -/
def arH (ps : List (Int × Int)) : Int := if arE ps = 0 then hiOf (area ps) else 0
def arL (ps : List (Int × Int)) : Int := if arE ps = 0 then loOf (area ps) else 0
theorem ref_area (ps : List (Int × Int)) (A : Option Addr) (cap : Nat) (hn : ps.length ≤ maxLen) (w : World) (hr : Pts w w.heap.size A ps) :
    Calls Try.prog 29 #[.slice A ps.length cap] w fun e w' => e = .returned (.tuple #[.agg #[.int .i64 (arH ps), .int .u64 (arL ps)], .int .i64 (arE ps)]) ∧ Below w.heap.size w w' := by
  unfold arH arL
  by_cases he : arE ps = 0
  · rw [if_pos he, if_pos he, he]; exact ref_area_good ps A cap he w hr
  · rw [if_neg he, if_neg he]; exact ref_area_bad ps A cap hn he w hr
theorem ref_check (ps : List (Int × Int)) (A : Option Addr) (cap : Nat) (hn : ps.length ≤ maxLen) (w : World) (hr : Pts w w.heap.size A ps) :
    Calls Try.prog 18 #[.slice A ps.length cap] w fun e w' => e = .returned (.int .i64 (chE ps)) ∧ Below w.heap.size w w' := by
  by_cases he : arE ps = 0
  · exact ref_check_good ps A cap he w hr
  · rw [chE_bad he]; exact ref_check_bad ps A cap hn he w hr
/-- What Side answers, and its error's number. -/
noncomputable def sdE (ps : List (Int × Int)) (p : Int × Int) : Int := if chE ps ≠ 0 then chE ps else if gd p then 0 else 3
noncomputable def sdV (ps : List (Int × Int)) (p : Int × Int) : Int := if sdE ps p = 0 then sideW ps p else 0
theorem chE_zero {ps : List (Int × Int)} : chE ps = 0 ↔ arE ps = 0 ∧ Sound ps := by
  constructor
  · intro h
    by_cases he : arE ps = 0
    · by_cases hs : Sound ps
      · exact ⟨he, hs⟩
      · rw [chE_unsound he hs] at h; omega
    · rw [chE_bad he] at h; exact absurd h he
  · rintro ⟨h1, h2⟩; exact chE_sound h1 h2
theorem arE_zero {ps : List (Int × Int)} : arE ps = 0 ↔ ps.length ≤ 128 ∧ gdL ps = true := by
  unfold arE
  by_cases h : 128 < ps.length
  · rw [if_pos h]; constructor
    · intro e; omega
    · rintro ⟨e, -⟩; omega
  · rw [if_neg h]
    cases gdL ps
    · simp
    · simp; omega

/-- The given ring, and the given point. -/
def gvR : List (Int × Int) := [(0, 0), (4, 0), (4, 4), (0, 4)]
theorem gv_ar : arE gvR = 0 := by decide +kernel
theorem gv_area : area gvR = 32 := by decide +kernel
theorem gv_sound : Sound gvR := by
  rw [sound_iff]
  refine ⟨by decide, by rw [gv_area]; omega, fun i j hij hj => ?_⟩
  refine (apart_test (by decide) hij hj).2 ?_
  have hj' : j < 4 := hj
  have hk : ∀ i, i < 4 → ∀ j, j < 4 → i < j → nx gvR i ≠ nx gvR j ∧ meetN (nx gvR i) (nx gvR (i + 1)) (nx gvR j) (nx gvR (j + 1)) = if nxB gvR.length i j then 1 else 0 := by decide +kernel
  exact hk i (by omega) j hj' hij
theorem gv_side : side gvR (2, 2) = 1 := by
  have hk : ∀ i, i < 4 → onB (nx gvR i) (nx gvR (i + 1)) (2, 2) = false := by decide +kernel
  rw [side_off (fun i hi h => by have h1 := hk i hi; rw [onB_iff.2 h] at h1; cases h1)]
  rw [if_pos]
  decide +kernel
theorem gv_sideW : sideW gvR (2, 2) = 1 := by
  unfold sideW
  rw [if_neg (fun h => by rw [← side_zero, gv_side] at h; omega), if_pos (by decide +kernel)]
theorem gv_ch : chE gvR = 0 := chE_sound gv_ar gv_sound
theorem gv_sdE : sdE gvR (2, 2) = 0 := by unfold sdE; rw [gv_ch, if_neg (by decide), if_pos (by decide)]
theorem gv_sdV : sdV gvR (2, 2) = 1 := by unfold sdV; rw [gv_sdE, if_pos rfl, gv_sideW]
/-- What Norm answers. -/
noncomputable def nmL (ps : List (Int × Int)) : List (Int × Int) := if chE ps = 0 then rotL ps (leastI ps ps.length) else []
end Go.Proofs.Ytfihddpidaidiaa

/- What Area, Check and Side answer of a ring that begins elsewhere, that is turned, moved, or has a corner more. -/
namespace Go.Proofs.Ytfihddpidaidiaa

theorem nx_dt {ps : List (Int × Int)} {k : Nat} (hk : k < ps.length) (i : Nat) : nx (ps.drop k ++ ps.take k) i = nx ps (i + k) := by
  have hl : (ps.drop k ++ ps.take k).length = ps.length := by rw [List.length_append, List.length_drop, List.length_take]; omega
  have hn : 0 < ps.length := by omega
  have hj := Nat.mod_lt i hn
  have e : (i + k) % ps.length = (i % ps.length + k) % ps.length := by rw [Nat.mod_add_mod]
  rw [← nx_mod ps (i + k), e]
  rw [← nx_mod (ps.drop k ++ ps.take k) i, hl]
  generalize i % ps.length = j at *
  rw [nx_lt (by rw [hl]; exact hj)]
  by_cases h : j + k < ps.length
  · rw [Nat.mod_eq_of_lt h, nx_lt h, List.getElem_append_left (by rw [List.length_drop]; omega), List.getElem_drop]
    congr 1; omega
  · have e2 : (j + k) % ps.length = j + k - ps.length := by
      rw [Nat.mod_eq_sub_mod (by omega), Nat.mod_eq_of_lt (by omega)]
    rw [e2, nx_lt (by omega), List.getElem_append_right (by rw [List.length_drop]; omega), List.getElem_take]
    congr 1
    rw [List.length_drop]; omega
theorem gdL_iff {ps : List (Int × Int)} : gdL ps = true ↔ ∀ p ∈ ps, Gd p := by
  unfold gdL
  simp only [List.all_eq_true, gd_iff]
theorem gdL_same {ps qs : List (Int × Int)} (h : ∀ p, p ∈ ps ↔ p ∈ qs) : gdL ps = gdL qs := by
  rw [Bool.eq_iff_iff, gdL_iff, gdL_iff]
  exact ⟨fun H p hp => H p ((h p).2 hp), fun H p hp => H p ((h p).1 hp)⟩
theorem arE_same {ps qs : List (Int × Int)} (hl : ps.length = qs.length) (hg : gdL ps = gdL qs) : arE ps = arE qs := by unfold arE; rw [hl, hg]
/-- All that is told of a ring, where area, soundness and sides are those of another one. -/
theorem told_same {ps qs : List (Int × Int)} {p q : Int × Int} (he : arE ps = arE qs) (ha : area ps = area qs) (hs : Sound ps ↔ Sound qs) (hg : gd p = gd q) (hd : sideW ps p = sideW qs q) : arH ps = arH qs ∧ arL ps = arL qs ∧ chE ps = chE qs ∧ sdE ps p = sdE qs q ∧ sdV ps p = sdV qs q := by
  have hc : chE ps = chE qs := by
    by_cases h0 : arE ps = 0
    · by_cases h : Sound ps
      · rw [chE_sound h0 h, chE_sound (he ▸ h0) (hs.1 h)]
      · rw [chE_unsound h0 h, chE_unsound (he ▸ h0) (fun e => h (hs.2 e))]
    · rw [chE_bad h0, chE_bad (he ▸ h0), he]
  have hE : sdE ps p = sdE qs q := by unfold sdE; rw [hc, hg]
  refine ⟨by unfold arH; rw [he, ha], by unfold arL; rw [he, ha], hc, hE, by unfold sdV; rw [hE, hd]⟩
theorem told_begins {ps : List (Int × Int)} {k : Nat} (hk : k < ps.length) (p : Int × Int) : arE (ps.drop k ++ ps.take k) = arE ps ∧ arH (ps.drop k ++ ps.take k) = arH ps ∧ arL (ps.drop k ++ ps.take k) = arL ps ∧ chE (ps.drop k ++ ps.take k) = chE ps ∧ sdE (ps.drop k ++ ps.take k) p = sdE ps p ∧ sdV (ps.drop k ++ ps.take k) p = sdV ps p := by
  have hl : (ps.drop k ++ ps.take k).length = ps.length := by rw [List.length_append, List.length_drop, List.length_take]; omega
  have hg : gdL (ps.drop k ++ ps.take k) = gdL ps := gdL_same fun p => by
    rw [List.mem_append, Or.comm, ← List.mem_append, List.take_append_drop]
  obtain ⟨h1, h2, h3⟩ := begins k hl (nx_dt hk)
  have he := arE_same hl hg
  exact ⟨he, told_same he h1 h2 rfl (sideW_same (h3 p) (begins_wind k hl (nx_dt hk) p))⟩
theorem nx_rev {ps : List (Int × Int)} {i : Nat} (hi : i ≤ ps.length) : nx ps.reverse i = nx ps (2 * ps.length - 1 - i) := by
  by_cases h0 : ps.length = 0
  · rw [List.length_eq_zero_iff.1 h0]; rfl
  · by_cases h : i = ps.length
    · subst h
      have e1 : nx ps.reverse ps.length = nx ps.reverse 0 := by
        have := nx_per ps.reverse 0
        rwa [Nat.zero_add, List.length_reverse] at this
      rw [e1, nx_lt (by rw [List.length_reverse]; omega), List.getElem_reverse, nx_lt (by omega)]
      congr 1; omega
    · have e2 : nx ps (2 * ps.length - 1 - i) = nx ps (ps.length - 1 - i) := by
        rw [show 2 * ps.length - 1 - i = ps.length - 1 - i + ps.length by omega, nx_per]
      rw [e2, nx_lt (by rw [List.length_reverse]; omega), List.getElem_reverse, nx_lt (by omega)]
theorem told_turned (ps : List (Int × Int)) : arE ps.reverse = arE ps ∧ area ps.reverse = -area ps ∧ (chE ps = 0 → chE ps.reverse = 4) := by
  have he : arE ps.reverse = arE ps := arE_same List.length_reverse (gdL_same fun p => List.mem_reverse)
  have ha := area_turned (r := ps) (s := ps.reverse) List.length_reverse (fun i hi => nx_rev hi)
  refine ⟨he, ha, fun h => chE_unsound (he.trans (chE_zero.1 h).1) fun hs => ?_⟩
  have := hs.2.1
  have h2 := (chE_zero.1 h).2.2.1
  omega
/-- A ring and the same turned have together no area. -/
theorem turned_sum {ps : List (Int × Int)} (h : arE ps = 0) : aH (arH ps) (arL ps) (arH ps.reverse) (arL ps.reverse) = 0 ∧ aL (arH ps) (arL ps) (arH ps.reverse) (arL ps.reverse) = 0 ∧ aE (arH ps) (arL ps) (arH ps.reverse) (arL ps.reverse) = 0 := by
  obtain ⟨he, ha, -⟩ := told_turned ps
  obtain ⟨h1, h2⟩ := arE_zero.1 h
  have hi : InR (area ps) := rim_inR h2 h1 (Nat.le_refl _)
  have hi' : InR (-area ps) := by
    rw [← ha]
    have h3 := arE_zero.1 (he.trans h)
    exact rim_inR h3.2 h3.1 (Nat.le_refl _)
  unfold arH arL
  rw [if_pos h, if_pos h, if_pos (he.trans h), if_pos (he.trans h), ha]
  have hz : area ps + -area ps = 0 := by omega
  obtain ⟨e1, e2, e3⟩ := add_of hi hi' (by rw [hz]; unfold InR; omega)
  rw [e1, e2, e3, hz]
  exact ⟨rfl, rfl, rfl⟩

theorem nx_map {ps : List (Int × Int)} (f : Int × Int → Int × Int) (i : Nat) (h : 0 < ps.length) : nx (ps.map f) i = f (nx ps i) := by
  have hi := Nat.mod_lt i h
  rw [← nx_mod (ps.map f), List.length_map, nx_lt (by rw [List.length_map]; exact hi), List.getElem_map, ← nx_mod ps i, nx_lt hi]
/-- A ring moved as a whole, both within the limits. -/
theorem told_shifts {ps : List (Int × Int)} {d p : Int × Int} (hg : gdL ps = true) (hg' : gdL (ps.map (mvd d)) = true) (hp : Gd p) (hp' : Gd (mvd d p)) : arE (ps.map (mvd d)) = arE ps ∧ arH (ps.map (mvd d)) = arH ps ∧ arL (ps.map (mvd d)) = arL ps ∧ chE (ps.map (mvd d)) = chE ps ∧ sdE (ps.map (mvd d)) (mvd d p) = sdE ps p ∧ sdV (ps.map (mvd d)) (mvd d p) = sdV ps p := by
  have hl : (ps.map (mvd d)).length = ps.length := List.length_map _
  obtain ⟨h1, h2, h3⟩ := shifts (r := ps) (s := ps.map (mvd d)) d hl (fun i h => nx_map _ i h)
  have he := arE_same hl (hg'.trans hg.symm)
  exact ⟨he, told_same he h1 h2 ((gd_iff.2 hp').trans (gd_iff.2 hp).symm) (sideW_same (h3 p) (shifts_wind d hl (fun i h => nx_map _ i h) p))⟩

/-- A corner more on an edge. -/
def mark (ps : List (Int × Int)) (k : Nat) (p : Int × Int) : List (Int × Int) := (ps.take (k + 1) ++ [p]) ++ ps.drop (k + 1)
theorem told_marks {ps : List (Int × Int)} {k : Nat} {p : Int × Int} (h : chE ps = 0) (hn : ps.length ≤ 127) (hk : k < ps.length) (hp : Gd p) (hon : OnS (nx ps k) (nx ps (k + 1)) p) (ha : p ≠ nx ps k) (hb : p ≠ nx ps (k + 1)) : arE (mark ps k p) = 0 ∧ area (mark ps k p) = area ps ∧ Sound (mark ps k p) ∧ ∀ q, sideW (mark ps k p) q = sideW ps q := by
  obtain ⟨h0, hs⟩ := chE_zero.1 h
  obtain ⟨hl128, hg⟩ := arE_zero.1 h0
  have hrot : ∃ r', r' = ps.drop (k + 1) ++ ps.take (k + 1) ∧ r'.length = ps.length ∧ (∀ i, nx r' i = nx ps (i + (k + 1))) := by
    refine ⟨_, rfl, by rw [List.length_append, List.length_drop, List.length_take]; omega, fun i => ?_⟩
    by_cases e : k + 1 < ps.length
    · exact nx_dt e i
    · have e1 : k + 1 = ps.length := by omega
      rw [e1, List.drop_length, List.take_length, List.nil_append, nx_per]
  obtain ⟨r', hr', hlr, hnr⟩ := hrot
  obtain ⟨a1, a2, a3⟩ := begins (k + 1) hlr hnr
  have hlast : nx r' (r'.length - 1) = nx ps k := by
    rw [hnr, hlr, show ps.length - 1 + (k + 1) = k + ps.length by omega, nx_per]
  have hfirst : nx r' 0 = nx ps (k + 1) := by rw [hnr, Nat.zero_add]
  have hls : (r' ++ [p]).length = r'.length + 1 := by simp
  obtain ⟨b1, b2, b3⟩ := marks (r := r') (s := r' ++ [p]) (p := p) (a2.2 hs) hls
    (fun i hi => by rw [nx_lt (by rw [hls]; omega), List.getElem_append_left hi, nx_lt hi])
    (by rw [nx_lt (by rw [hls]; omega), List.getElem_append_right (Nat.le_refl _)]; simp)
    (by rw [hlast, hfirst]; exact hon) (by rw [hlast]; exact ha) (by rw [hfirst]; exact hb)
  have hld : (ps.drop (k + 1)).length = ps.length - (k + 1) := List.length_drop
  have hm : mark ps k p = (r' ++ [p]).drop (ps.length - (k + 1)) ++ (r' ++ [p]).take (ps.length - (k + 1)) := by
    rw [hr', List.append_assoc, ← hld, List.drop_left, List.take_left]
    unfold mark
    rfl
  obtain ⟨c1, c2, c3⟩ := begins (r := r' ++ [p]) (s := mark ps k p) (ps.length - (k + 1)) (by rw [hm, List.length_append, List.length_drop, List.length_take]; omega) (fun i => by rw [hm]; exact nx_dt (by rw [hls]; omega) i)
  have hlm : (mark ps k p).length = ps.length + 1 := by
    unfold mark
    rw [List.length_append, List.length_append, List.length_take, List.length_drop]
    simp only [List.length_cons, List.length_nil]
    omega
  have hw : ∀ q, wind (mark ps k p) q = wind ps q := fun q => by
    rw [begins_wind (r := r' ++ [p]) (s := mark ps k p) (ps.length - (k + 1)) (by rw [hm, List.length_append, List.length_drop, List.length_take]; omega) (fun i => by rw [hm]; exact nx_dt (by rw [hls]; omega) i) q]
    rw [marks_wind (r := r') (s := r' ++ [p]) (p := p) (by omega) hls
      (fun i hi => by rw [nx_lt (by rw [hls]; omega), List.getElem_append_left hi, nx_lt hi])
      (by rw [nx_lt (by rw [hls]; omega), List.getElem_append_right (Nat.le_refl _)]; simp)
      (by rw [hlast, hfirst]; exact hon) (by rw [hlast]; exact ha) (by rw [hfirst]; exact hb) q]
    exact begins_wind (k + 1) hlr hnr q
  refine ⟨arE_zero.2 ⟨by omega, gdL_iff.2 fun x hx => ?_⟩, by rw [c1, b1, a1], c2.2 b2, fun q => sideW_same (by rw [c3, b3, a3]) (hw q)⟩
  unfold mark at hx
  rw [List.mem_append, List.mem_append] at hx
  rcases hx with (hx | hx) | hx
  · exact gdL_iff.1 hg x (List.mem_of_mem_take hx)
  · obtain rfl := List.mem_singleton.1 hx; exact hp
  · exact gdL_iff.1 hg x (List.mem_of_mem_drop hx)
end Go.Proofs.Ytfihddpidaidiaa
