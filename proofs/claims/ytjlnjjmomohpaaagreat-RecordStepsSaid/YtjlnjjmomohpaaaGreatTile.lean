/- Rings that fit tile the territory: edge by edge the counts go up, and every point is within just one, or on the border of two. -/
import Derived.Test.YtjlnjjmomohpaaaGreatPlane
namespace Go.Proofs.YtjlnjjmomohpaaaGreat

theorem edge_one {r : List (Int × Int)} (hs : Sound r) : ∀ m : Int, 0 < m → ∀ i, i < r.length → ∀ z, Ins (mulp m (nx r i)) (mulp m (nx r (i + 1))) z → wnd (fun j => mulp m (nx r j)) r.length z + upw (nx r i) (nx r (i + 1)) = 1 := by
 have hC := Cyc.of hs
 obtain ⟨c, hc⟩ := hC.same
 obtain ⟨N, hN, hd⟩ := div_all (fun i => (nx r (i + 1)).2 - (nx r i).2) r.length
 have hlev : ∀ M l : Int, 0 < M → (∀ i, M * (nx r i).2 ≠ l) → (∀ x, wnd (fun i => mulp (N * M) (nx r i)) r.length (x, N * l) = 0 ∨ wnd (fun i => mulp (N * M) (nx r i)) r.length (x, N * l) = c ∨ wnd (fun i => mulp (N * M) (nx r i)) r.length (x, N * l) = c - 1) ∧ ((∃ i, i < r.length ∧ Cross (fun i => mulp (N * M) (nx r i)) (N * l) i) → c = 0 ∨ c = 1) := by
  intro M l hM hl
  have hNM := Int.mul_pos hN hM
  exact (level_of hN hd hl).told (hC.out hNM) (fun i hi z hz => by rw [upw_mulp hNM]; exact hc (N * M) hNM i hi z hz)
 have hc1 : c = 1 := by
  by_cases h1 : c = 1
  ·exact h1
  ·exfalso
   have := area_le hN hd (fun t x => by
    have hl := hlev 2 (2 * t + 1) (by omega) (fun i => by omega)
    by_cases hx : ∃ i, i < r.length ∧ Cross (fun i => mulp (N * 2) (nx r i)) (N * (2 * t + 1)) i
    ·have h2 := hl.2 hx
     have h3 := hl.1 x
     omega
    ·have hL := level_of (n := r.length) (M := 2) (l := 2 * t + 1) hN hd (fun i => by omega)
     have : wnd (fun i => mulp (N * 2) (nx r i)) r.length (x, N * (2 * t + 1)) = 0 := sumTo_zero _ fun i hi => (hL.psv hi x).1 fun h => hx ⟨i, hi, h⟩
     omega)
   have := hs.2.1
   omega
 intro m hm i hi z hz
 rw [hc m hm i hi z hz, hc1]

def mulR (m : Int) (r : List (Int × Int)) : List (Int × Int) := r.map (mulp m)
theorem mulR_len (m : Int) (r : List (Int × Int)) : (mulR m r).length = r.length := by unfold mulR; rw [List.length_map]
theorem nx_mulR (m : Int) (r : List (Int × Int)) (i : Nat) : nx (mulR m r) i = mulp m (nx r i) := by
 unfold nx
 rw [mulR_len]
 unfold mulR
 rw [List.getD_eq_getElem?_getD, List.getD_eq_getElem?_getD, List.getElem?_map]
 cases r[i % r.length]? with
 |none => simp [mulp]
 |some x => rfl
theorem area_mulR (m : Int) (r : List (Int × Int)) : area (mulR m r) = m * m * area r := by
 unfold area
 rw [mulR_len]
 have h : ∀ n, sumTo (fun i => crs0 (nx (mulR m r) i) (nx (mulR m r) (i + 1))) n = m * m * sumTo (fun i => crs0 (nx r i) (nx r (i + 1))) n := by
  intro n
  induction n with
  |zero => simp [sumTo]
  |succ n ih =>
   rw [sumTo, sumTo, ih, nx_mulR, nx_mulR, Int.mul_add]
   have : crs0 (mulp m (nx r n)) (mulp m (nx r (n + 1))) = m * m * crs0 (nx r n) (nx r (n + 1)) := by unfold crs0 mulp; grind
   rw [this]
 exact h _
theorem sound_mulR {m : Int} (hm : 0 < m) {r : List (Int × Int)} (hs : Sound r) : Sound (mulR m r) := by
 refine ⟨by rw [mulR_len]; exact hs.1, by rw [area_mulR]; exact Int.mul_pos (Int.mul_pos hm hm) hs.2.1, fun i j hij => ?_⟩
 rw [mulR_len] at hij
 obtain ⟨h1, h2, h3⟩ := hs.2.2 i j hij
 unfold Apart
 rw [mulR_len]
 simp only [nx_mulR, meet_mulp hm]
 exact ⟨fun e => h1 ((mulp_inj hm).1 e), h2, h3⟩
theorem wind_mulR (m : Int) (r : List (Int × Int)) (z : Int × Int) : wind (mulR m r) z = wnd (fun j => mulp m (nx r j)) r.length z := by
 rw [wind_wnd, mulR_len]
 unfold wnd
 simp only [nx_mulR]
def edg (r : List (Int × Int)) : List ((Int × Int) × (Int × Int)) := (List.range r.length).map fun i => (nx r i, nx r (i + 1))
def edgs (L : List (List (Int × Int))) : List ((Int × Int) × (Int × Int)) := L.flatMap edg
def bk (e : (Int × Int) × (Int × Int)) : (Int × Int) × (Int × Int) := (e.2, e.1)
theorem mem_edg {r : List (Int × Int)} {e : (Int × Int) × (Int × Int)} : e ∈ edg r ↔ ∃ i, i < r.length ∧ e = (nx r i, nx r (i + 1)) := by
 unfold edg
 simp only [List.mem_map, List.mem_range]
 exact ⟨fun ⟨i, hi, h⟩ => ⟨i, hi, h.symm⟩, fun ⟨i, hi, h⟩ => ⟨i, hi, h.symm⟩⟩
theorem mem_edgs {L : List (List (Int × Int))} {e : (Int × Int) × (Int × Int)} : e ∈ edgs L ↔ ∃ r ∈ L, e ∈ edg r := by
 unfold edgs; rw [List.mem_flatMap]
def sumL {α : Type} (f : α → Int) : List α → Int
 |[] => 0
 |a :: l => f a + sumL f l
theorem sumL_append {α : Type} (f : α → Int) : ∀ l m : List α, sumL f (l ++ m) = sumL f l + sumL f m
 |[], m => by simp [sumL]
 |a :: l, m => by rw [List.cons_append, sumL, sumL, sumL_append f l m]; omega
theorem sumL_perm {α : Type} (f : α → Int) {l m : List α} (h : l.Perm m) : sumL f l = sumL f m := by
 induction h with
 |nil => rfl
 |cons a _ ih => rw [sumL, sumL, ih]
 |swap a b l => rw [sumL, sumL, sumL, sumL]; omega
 |trans _ _ h1 h2 => rw [h1, h2]
theorem sumL_map {α β : Type} (f : β → Int) (g : α → β) : ∀ l : List α, sumL f (l.map g) = sumL (fun a => f (g a)) l
 |[] => rfl
 |a :: l => by rw [List.map_cons, sumL, sumL, sumL_map f g l]
theorem sumL_neg {α : Type} (f : α → Int) : ∀ l : List α, sumL (fun a => -f a) l = -sumL f l
 |[] => rfl
 |a :: l => by rw [sumL, sumL, sumL_neg f l]; omega
theorem sumL_ext {α : Type} {f g : α → Int} : ∀ {l : List α}, (∀ a ∈ l, f a = g a) → sumL f l = sumL g l
 |[], _ => rfl
 |a :: l, h => by rw [sumL, sumL, h a List.mem_cons_self, sumL_ext fun b hb => h b (List.mem_cons_of_mem _ hb)]
theorem sumL_filter {α : Type} (f : α → Int) (p : α → Bool) : ∀ l : List α, sumL f l = sumL f (l.filter p) + sumL f (l.filter fun a => !p a)
 |[] => rfl
 |a :: l => by
  have := sumL_filter f p l
  rw [List.filter_cons, List.filter_cons]
  cases p a <;> simp only [Bool.not_false, Bool.not_true, if_true, Bool.false_eq_true, if_false, sumL] <;> omega
theorem sumL_range (f : Nat → Int) : ∀ n, sumL f (List.range n) = sumTo f n
 |0 => rfl
 |n + 1 => by rw [List.range_succ, sumL_append, sumL_range f n, sumTo, sumL, sumL]; omega
theorem sumL_edg (f : (Int × Int) × (Int × Int) → Int) (r : List (Int × Int)) : sumL f (edg r) = sumTo (fun i => f (nx r i, nx r (i + 1))) r.length := by
 unfold edg; rw [sumL_map, sumL_range]
theorem sumL_flat {α β : Type} (f : β → Int) (g : α → List β) : ∀ l : List α, sumL f (l.flatMap g) = sumL (fun a => sumL f (g a)) l
 |[] => rfl
 |a :: l => by rw [List.flatMap_cons, sumL_append, sumL, sumL_flat f g l]
theorem perm_nodup {α : Type} [DecidableEq α] {l m : List α} (hl : l.Nodup) (hm : m.Nodup) (h : ∀ a, a ∈ l ↔ a ∈ m) : l.Perm m := by
 rw [List.perm_iff_count]
 intro a
 rw [hl.count, hm.count]
 by_cases ha : a ∈ l
 ·rw [if_pos ha, if_pos ((h a).1 ha)]
 ·rw [if_neg ha, if_neg fun e => ha ((h a).2 e)]
theorem sum_both {f : (Int × Int) × (Int × Int) → Int} (hf : ∀ e, f (bk e) = -f e) {l : List ((Int × Int) × (Int × Int))} (hl : l.Nodup) (h : ∀ e ∈ l, bk e ∈ l) : sumL f l = 0 := by
 have inj : ∀ e e', bk e = bk e' → e = e' := fun e e' h => by unfold bk at h; exact Prod.ext (Prod.ext_iff.1 h).2 (Prod.ext_iff.1 h).1
 have hp : (l.map bk).Perm l := by
  refine perm_nodup ?_ hl fun a => ?_
  ·exact List.Pairwise.map bk (fun a b hab e => hab (inj a b e)) hl
  ·rw [List.mem_map]
   exact ⟨fun ⟨e, he, h'⟩ => h' ▸ h e he, fun ha => ⟨bk a, h a ha, rfl⟩⟩
 have h1 := sumL_perm f hp
 rw [sumL_map, sumL_ext (g := fun a => -f a) fun a _ => hf a, sumL_neg] at h1
 omega

structure Fit (o : List (Int × Int)) (L : List (List (Int × Int))) : Prop where
 outer : Sound o
 each : ∀ r ∈ L, Sound r
 once : (edgs L).Nodup
 out : ∀ e ∈ edg o, e ∈ edgs L
 both : ∀ e ∈ edgs L, (e ∈ edg o ↔ bk e ∉ edgs L)
 clear : ∀ a ∈ edgs L, ∀ b ∈ edgs L, a ≠ b → meet a.1 a.2 b.1 b.2 ≠ 2 ∧ (meet a.1 a.2 b.1 b.2 = 1 → a.1 = b.1 ∨ a.1 = b.2 ∨ a.2 = b.1 ∨ a.2 = b.2) ∧ (meet a.1 a.2 b.1 b.2 = 3 → a = bk b)
theorem edg_nodup {r : List (Int × Int)} (hs : Sound r) : (edg r).Nodup := by
 unfold edg
 refine List.Pairwise.map _ ?_ (List.pairwise_lt_range.imp_of_mem fun {a b} ha hb hab => (show (a, b).1 < (a, b).2 ∧ b < r.length from ⟨hab, List.mem_range.1 hb⟩))
 rintro a b ⟨hab, hb⟩ e
 simp only at hab
 have h1 := (hs.2.2 a b (by rw [Nat.mod_eq_of_lt (by omega), Nat.mod_eq_of_lt hb]; omega)).1
 exact h1 (Prod.ext_iff.1 e).1
section
variable {o : List (Int × Int)} {L : List (List (Int × Int))} (h : Fit o L)
include h
theorem Fit.bk_out {e : (Int × Int) × (Int × Int)} (he : e ∈ edgs L) (hb : bk e ∈ edg o) : False := by
 have h1 := (h.both (bk e) (h.out _ hb)).1 hb
 exact h1 he
theorem Fit.sum {f : (Int × Int) × (Int × Int) → Int} (hf : ∀ e, f (bk e) = -f e) : sumL (fun r => sumL f (edg r)) L = sumL f (edg o) := by
 rw [← sumL_flat, show L.flatMap edg = edgs L from rfl, sumL_filter f (fun e => decide (e ∈ edg o)) (edgs L)]
 have h1 : sumL f ((edgs L).filter fun e => decide (e ∈ edg o)) = sumL f (edg o) := by
  refine sumL_perm f (perm_nodup (h.once.filter _) (edg_nodup h.outer) fun a => ?_)
  rw [List.mem_filter, decide_eq_true_eq]
  exact ⟨fun h => h.2, fun ha => ⟨h.out a ha, ha⟩⟩
 have h2 : sumL f ((edgs L).filter fun e => !decide (e ∈ edg o)) = 0 := by
  refine sum_both hf (h.once.filter _) fun e he => ?_
  rw [List.mem_filter, Bool.not_eq_true', decide_eq_false_iff_not] at he ⊢
  exact ⟨by
   by_cases hb : bk e ∈ edgs L
   ·exact hb
   ·exact absurd ((h.both e he.1).2 hb) he.2, fun hb => h.bk_out he.1 hb⟩
 omega
theorem Fit.winds (m : Int) (z : Int × Int) : sumL (fun r => wind (mulR m r) z) L = wind (mulR m o) z := by
 have key : ∀ r, wind (mulR m r) z = sumL (fun e => psv (mulp m e.1) (mulp m e.2) z) (edg r) := fun r => by
  rw [wind_mulR, sumL_edg]; rfl
 simp only [key]
 exact h.sum fun e => psv_turn _ _ _
end
theorem mulR_one (r : List (Int × Int)) : mulR 1 r = r := by
 unfold mulR
 rw [show mulp 1 = id from funext fun p => by unfold mulp; simp]
 exact List.map_id r
noncomputable def nIn (L : List (List (Int × Int))) (z : Int × Int) : Int := sumL (fun r => if side r z = 1 then 1 else 0) L
noncomputable def nOn (L : List (List (Int × Int))) (z : Int × Int) : Int := sumL (fun r => if side r z = 0 then 1 else 0) L
theorem sumL_nonneg {α : Type} {f : α → Int} : ∀ {l : List α}, (∀ a ∈ l, 0 ≤ f a) → 0 ≤ sumL f l
 |[], _ => by simp [sumL]
 |a :: l, h => by
  have h1 := h a List.mem_cons_self
  have h2 := sumL_nonneg fun b hb => h b (List.mem_cons_of_mem _ hb)
  rw [sumL]; omega
theorem sumL_all {α : Type} {f : α → Int} : ∀ {l : List α}, (∀ a ∈ l, 0 ≤ f a) → sumL f l = 0 → ∀ a ∈ l, f a = 0
 |[], _, _, _, h => by cases h
 |a :: l, h, hs, b, hb => by
  have h1 := h a List.mem_cons_self
  have h2 := sumL_nonneg (l := l) fun b hb => h b (List.mem_cons_of_mem _ hb)
  rw [sumL] at hs
  rcases List.mem_cons.1 hb with rfl | hb
  ·omega
  ·exact sumL_all (fun c hc => h c (List.mem_cons_of_mem _ hc)) (by omega) b hb
theorem sumL_le {α : Type} {f g : α → Int} : ∀ {l : List α}, (∀ a ∈ l, f a ≤ g a) → sumL f l ≤ sumL g l
 |[], _ => Int.le_refl _
 |a :: l, h => by
  have h1 := h a List.mem_cons_self
  have h2 := sumL_le (l := l) fun b hb => h b (List.mem_cons_of_mem _ hb)
  rw [sumL, sumL]; omega
theorem sumL_add {α : Type} (f g : α → Int) : ∀ l : List α, sumL (fun a => f a + g a) l = sumL f l + sumL g l
 |[] => rfl
 |a :: l => by rw [sumL, sumL, sumL, sumL_add f g l]; omega
theorem sumL_mul {α : Type} (c : Int) (f : α → Int) : ∀ l : List α, sumL (fun a => c * f a) l = c * sumL f l
 |[] => by simp [sumL]
 |a :: l => by rw [sumL, sumL, sumL_mul c f l, Int.mul_add]
noncomputable def ind (p : Prop) : Int := @ite Int p (Classical.propDecidable p) 1 0
theorem ind_pos {p : Prop} (h : p) : ind p = 1 := by unfold ind; exact @if_pos p (Classical.propDecidable p) h Int 1 0
theorem ind_neg {p : Prop} (h : ¬ p) : ind p = 0 := by unfold ind; exact @if_neg p (Classical.propDecidable p) h Int 1 0
theorem sum_ind {α : Type} {l : List α} (hl : l.Nodup) (e : α) : sumL (fun x => ind (x = e)) l = ind (e ∈ l) := by
 induction l with
 |nil => rw [ind_neg (by simp)]; rfl
 |cons a l ih =>
  obtain ⟨h1, h2⟩ := List.nodup_cons.1 hl
  rw [sumL, ih h2]
  by_cases ha : a = e
  ·subst ha
   rw [ind_pos rfl, ind_neg h1, ind_pos List.mem_cons_self]; rfl
  ·rw [ind_neg ha]
   by_cases he : e ∈ l
   ·rw [ind_pos he, ind_pos (List.mem_cons_of_mem _ he)]; rfl
   ·rw [ind_neg he, ind_neg fun h => (List.mem_cons.1 h).elim (fun h => ha h.symm) he]; rfl
theorem ring_ind {L : List (List (Int × Int))} (hn : (edgs L).Nodup) (hs : ∀ r ∈ L, Sound r) (e : (Int × Int) × (Int × Int)) : sumL (fun r => ind (e ∈ edg r)) L = ind (e ∈ edgs L) := by
 rw [← sum_ind hn e, show edgs L = L.flatMap edg from rfl, sumL_flat]
 exact sumL_ext fun r hr => (sum_ind (edg_nodup (hs r hr)) e).symm
theorem near_in {a b z : Int × Int} (hab : a ≠ b) (hz : OnS a b z) : ∃ W : Int × Int, ∀ M : Int, 2 ≤ M → Ins (mulp M a) (mulp M b) (mvd (mulp M z) W) := by
 by_cases ha : z = a
 ·subst ha
  exact ⟨from0 z b, fun M hM => ins_near hab hM⟩
 ·by_cases hb : z = b
  ·subst hb
   exact ⟨from0 z a, fun M hM => (ins_near (fun e => hab e.symm) hM).turn⟩
  ·exact ⟨(0, 0), fun M hM => by rw [mvd_zero]; exact (ins_mulp (by omega)).2 ⟨hz, ha, hb⟩⟩
theorem far_ring {r : List (Int × Int)} {z : Int × Int} (W : Int × Int) (h : ¬ onRim r z) : ∃ K : Int, ∀ M, K ≤ M → 0 < M → wind (mulR M r) (mvd (mulp M z) W) = wind r z := by
 obtain ⟨K, hK⟩ := far_all (P := fun i M => i < r.length → meet (mvd (mulp M z) (0, 0)) (mvd (mulp M z) W) (mulp M (nx r i)) (mulp M (nx r (i + 1))) = 0) (fun i => by
  by_cases hi : i < r.length
  ·obtain ⟨K, hK⟩ := far_one (fun ho => h ⟨i, hi, ho⟩ : ¬ OnS (nx r i) (nx r (i + 1)) z) (0, 0) W
   exact ⟨K, fun M hM _ => hK M hM⟩
  ·exact ⟨0, fun _ _ hi' => absurd hi' hi⟩) r.length
 refine ⟨K, fun M hM hM0 => ?_⟩
 have h1 := way_same (e := fun i => mulp M (nx r i)) (n := r.length) (z := mvd (mulp M z) (0, 0)) (z' := mvd (mulp M z) W) (by
  have := nx_per r 0
  rw [Nat.zero_add] at this
  simp only [this]) (fun i hi => hK M hM i hi hi)
 rw [mvd_zero, wnd_mulp hM0, ← wind_wnd] at h1
 rw [wind_mulR, ← h1]
theorem far_rings {z : Int × Int} (W : Int × Int) : ∀ L : List (List (Int × Int)), ∃ K : Int, ∀ M, K ≤ M → 0 < M → ∀ r ∈ L, ¬ onRim r z → wind (mulR M r) (mvd (mulp M z) W) = wind r z
 |[] => ⟨0, fun _ _ _ _ h => by cases h⟩
 |r :: L => by
  obtain ⟨K, hK⟩ := far_rings W L
  by_cases h : onRim r z
  ·exact ⟨K, fun M h1 h2 r' hr hn => by
    rcases List.mem_cons.1 hr with rfl | hr
    ·exact absurd h hn
    ·exact hK M h1 h2 r' hr hn⟩
  ·obtain ⟨K', hK'⟩ := far_ring W h
   exact ⟨K + K'.natAbs + K.natAbs, fun M h1 h2 r' hr hn => by
    rcases List.mem_cons.1 hr with rfl | hr
    ·exact hK' M (by omega) h2
    ·exact hK M (by omega) h2 r' hr hn⟩
theorem upw_bk {a b : Int × Int} (h : a ≠ b) : upw a b + upw b a = 1 := by
 have h' : a.1 ≠ b.1 ∨ a.2 ≠ b.2 := by
  by_cases h1 : a.1 = b.1
  ·exact .inr fun h2 => h (Prod.ext h1 h2)
  ·exact .inl h1
 unfold upw
 split <;> split <;> omega
theorem side_wind {r : List (Int × Int)} {z : Int × Int} (hs : Sound r) (h : ¬ onRim r z) : (side r z = 1 ↔ wind r z = 1) ∧ (side r z = -1 ↔ wind r z = 0) ∧ side r z ≠ 0 := by
 have h1 := round_once hs h
 rw [← sideW_side hs]
 unfold sideW
 rw [if_neg h]
 by_cases hw : wind r z = 1
 ·rw [if_pos hw]; omega
 ·rw [if_neg hw]; omega
theorem onRim_edg {r : List (Int × Int)} {z : Int × Int} : onRim r z ↔ ∃ e ∈ edg r, OnS e.1 e.2 z := by
 constructor
 ·rintro ⟨i, hi, h⟩; exact ⟨_, mem_edg.2 ⟨i, hi, rfl⟩, h⟩
 ·rintro ⟨e, he, h⟩
  obtain ⟨i, hi, rfl⟩ := mem_edg.1 he
  exact ⟨i, hi, h⟩
theorem edg_way {r : List (Int × Int)} (hs : Sound r) {e : (Int × Int) × (Int × Int)} (h1 : e ∈ edg r) (h2 : bk e ∈ edg r) : False := by
 obtain ⟨i, hi, rfl⟩ := mem_edg.1 h1
 obtain ⟨j, hj, h⟩ := mem_edg.1 h2
 have e1 : nx r (i + 1) = nx r j := (Prod.ext_iff.1 h).1
 have e2 : nx r i = nx r (j + 1) := (Prod.ext_iff.1 h).2
 have h3 := hs.1
 have k1 : (i + 1) % r.length = j % r.length := by
  by_cases hk : (i + 1) % r.length = j % r.length
  ·exact hk
  ·exact absurd e1 (hs.2.2 _ _ hk).1
 have k2 : i % r.length = (j + 1) % r.length := by
  by_cases hk : i % r.length = (j + 1) % r.length
  ·exact hk
  ·exact absurd e2 (hs.2.2 _ _ hk).1
 have k3 : (i + 1 + 1) % r.length = i % r.length := ((mod_add_iff (i + 1) j 1 r.length).2 k1).trans k2.symm
 have k4 : (2 + i) % r.length = (0 + i) % r.length := by rw [show 2 + i = i + 1 + 1 by omega, Nat.zero_add]; exact k3
 have k5 := (mod_add_iff 2 0 i r.length).1 k4
 rw [Nat.mod_eq_of_lt (by omega), Nat.zero_mod] at k5
 omega
theorem edg_ne {r : List (Int × Int)} (hs : Sound r) {e : (Int × Int) × (Int × Int)} (h : e ∈ edg r) : e.1 ≠ e.2 := by
 obtain ⟨i, hi, rfl⟩ := mem_edg.1 h
 have h3 := hs.1
 refine (hs.2.2 i (i + 1) fun k => ?_).1
 have k4 : (0 + i) % r.length = (1 + i) % r.length := by rw [Nat.zero_add, Nat.add_comm 1 i]; exact k
 have k5 := (mod_add_iff 0 1 i r.length).1 k4
 rw [Nat.mod_eq_of_lt (show 1 < r.length by omega), Nat.zero_mod] at k5
 omega
section
variable {o : List (Int × Int)} {L : List (List (Int × Int))} (h : Fit o L)
include h
theorem Fit.wind1 (z : Int × Int) : sumL (fun r => wind r z) L = wind o z := by
 have := h.winds 1 z
 simpa only [mulR_one] using this
theorem Fit.off {z : Int × Int} (hz : ∀ r ∈ L, ¬ onRim r z) : ¬ onRim o z ∧ nOn L z = 0 ∧ nIn L z = wind o z := by
 refine ⟨fun ho => ?_, ?_, ?_⟩
 ·obtain ⟨e, he, hon⟩ := onRim_edg.1 ho
  obtain ⟨r, hr, her⟩ := mem_edgs.1 (h.out e he)
  exact hz r hr (onRim_edg.2 ⟨e, her, hon⟩)
 ·unfold nOn
  have e : sumL (fun r => if side r z = 0 then (1 : Int) else 0) L = sumL (fun _ => 0 * 0) L := sumL_ext fun r hr => by rw [if_neg (side_wind (h.each r hr) (hz r hr)).2.2]; rfl
  rw [e, sumL_mul, Int.zero_mul]
 ·unfold nIn
  rw [← h.wind1 z]
  refine sumL_ext fun r hr => ?_
  have h1 := round_once (h.each r hr) (hz r hr)
  have h2 := (side_wind (h.each r hr) (hz r hr)).1
  by_cases hw : side r z = 1
  ·rw [if_pos hw, h2.1 hw]
  ·rw [if_neg hw]
   rcases h1 with h1 | h1
   ·exact h1.symm
   ·exact absurd (h2.2 h1) hw
theorem Fit.same {e f : (Int × Int) × (Int × Int)} (he : e ∈ edgs L) (hf : f ∈ edgs L) {M : Int} (hM : 0 < M) {z : Int × Int} (hz : Ins (mulp M e.1) (mulp M e.2) z) (hz' : OnS (mulp M f.1) (mulp M f.2) z) : f = e ∨ f = bk e := by
 by_cases hef : e = f
 ·exact .inl hef.symm
 ·obtain ⟨h1, h2, h3⟩ := h.clear e he f hf hef
  have hb := meet_bound (a := e.1) (b := e.2) (c := f.1) (d := f.2)
  have hp : 0 < meet e.1 e.2 f.1 f.2 := by
   rw [← meet_mulp hM]
   exact meet_pos.2 (one_common hz.1 hz')
  by_cases h4 : meet e.1 e.2 f.1 f.2 = 1
  ·exfalso
   have no : ∀ p : Int × Int, (p = e.1 ∨ p = e.2) → OnS f.1 f.2 p → False := fun p hp ho => by
    have hn : z ≠ mulp M p := by
     rcases hp with rfl | rfl
     ·exact hz.2.1
     ·exact hz.2.2
    have h5 := two_common hn hz.1 hz' ((on_mulp hM).2 (by rcases hp with rfl | rfl; exact on_left _ _; exact on_right _ _)) ((on_mulp hM).2 ho)
    have h6 := meet_three.2 h5
    rw [meet_mulp hM] at h6
    omega
   rcases h2 h4 with h5 | h5 | h5 | h5
   ·exact no _ (.inl rfl) (h5 ▸ on_left _ _)
   ·exact no _ (.inl rfl) (h5 ▸ on_right _ _)
   ·exact no _ (.inr rfl) (h5 ▸ on_left _ _)
   ·exact no _ (.inr rfl) (h5 ▸ on_right _ _)
  ·have h5 := h3 (by omega)
   exact .inr (by rw [h5]; rfl)
theorem Fit.on {z : Int × Int} {r0 : List (Int × Int)} (hr0 : r0 ∈ L) (hz : onRim r0 z) : nIn L z = 0 ∧ 1 ≤ nOn L z ∧ (¬ onRim o z → side o z = 1 ∧ 2 ≤ nOn L z) := by
 obtain ⟨e, he0, hon⟩ := onRim_edg.1 hz
 have he : e ∈ edgs L := mem_edgs.2 ⟨r0, hr0, he0⟩
 have hne := edg_ne (h.each r0 hr0) he0
 obtain ⟨W, hW⟩ := near_in hne hon
 obtain ⟨K, hK⟩ := far_rings (z := z) W (o :: L)
 obtain ⟨M, hM, hM2⟩ : ∃ M, K ≤ M ∧ 2 ≤ M := ⟨2 + K.natAbs, by omega, by omega⟩
 have hM0 : 0 < M := by omega
 have hz' := hW M hM2
 have far := hK M hM hM0
 generalize hzz : mvd (mulp M z) W = z' at hz' far
 clear hW hK hzz
 have onz : ∀ r ∈ L, (e ∈ edg r ∨ bk e ∈ edg r) → onRim r z := fun r _ hh => by
  rcases hh with hh | hh
  ·exact onRim_edg.2 ⟨_, hh, hon⟩
  ·exact onRim_edg.2 ⟨_, hh, on_turn.2 hon⟩
 have val : ∀ r, Sound r → ∀ f, f ∈ edg r → Ins (mulp M f.1) (mulp M f.2) z' → wind (mulR M r) z' = 1 - upw f.1 f.2 := fun r hs f hf hi => by
  obtain ⟨i, hi', rfl⟩ := mem_edg.1 hf
  have := edge_one hs M hM0 i hi' z' hi
  rw [wind_mulR]; simp only at *; omega
 have small : ∀ r, Sound r → ¬ onRim (mulR M r) z' → 0 ≤ wind (mulR M r) z' ∧ wind (mulR M r) z' ≤ 1 := fun r hs hn => by
  have := round_once (sound_mulR hM0 hs) hn
  omega
 have rim : ∀ r, onRim (mulR M r) z' → (∀ f ∈ edg r, f ∈ edgs L) → e ∈ edg r ∨ bk e ∈ edg r := fun r ⟨i, hi, ho⟩ hin => by
  rw [mulR_len] at hi
  rw [nx_mulR, nx_mulR] at ho
  have hf : (nx r i, nx r (i + 1)) ∈ edg r := mem_edg.2 ⟨i, hi, rfl⟩
  rcases h.same he (hin _ hf) hM0 hz' ho with h1 | h1
  ·exact .inl (h1 ▸ hf)
  ·exact .inr (h1 ▸ hf)
 let rest : List (Int × Int) → Int := fun r => if e ∈ edg r ∨ bk e ∈ edg r then 0 else wind (mulR M r) z'
 have hin : ∀ r ∈ L, ∀ f ∈ edg r, f ∈ edgs L := fun r hr f hf => mem_edgs.2 ⟨r, hr, hf⟩
 have rest0 : ∀ r ∈ L, 0 ≤ rest r := fun r hr => by
  show 0 ≤ (if e ∈ edg r ∨ bk e ∈ edg r then 0 else wind (mulR M r) z')
  by_cases hh : e ∈ edg r ∨ bk e ∈ edg r
  ·rw [if_pos hh]; omega
  ·rw [if_neg hh]
   exact (small r (h.each r hr) fun hn => hh (rim r hn (hin r hr))).1
 have up := upw_bk hne
 have parts : sumL (fun r => wind (mulR M r) z') L = (1 - upw e.1 e.2) * 1 + upw e.1 e.2 * ind (bk e ∈ edgs L) + sumL rest L := by
  have e1 := ring_ind h.once h.each e
  rw [ind_pos he] at e1
  rw [← ring_ind h.once h.each (bk e), show (1 - upw e.1 e.2) * 1 = (1 - upw e.1 e.2) * sumL (fun r => ind (e ∈ edg r)) L by rw [e1], ← sumL_mul, ← sumL_mul, ← sumL_add, ← sumL_add]
  refine sumL_ext fun r hr => ?_
  show wind (mulR M r) z' = (1 - upw e.1 e.2) * ind (e ∈ edg r) + upw e.1 e.2 * ind (bk e ∈ edg r) + (if e ∈ edg r ∨ bk e ∈ edg r then 0 else wind (mulR M r) z')
  by_cases h1 : e ∈ edg r
  ·have h2 : bk e ∉ edg r := fun h2 => edg_way (h.each r hr) h1 h2
   rw [ind_pos h1, ind_neg h2, if_pos (.inl h1), val r (h.each r hr) e h1 hz']; omega
  ·by_cases h2 : bk e ∈ edg r
   ·rw [ind_neg h1, ind_pos h2, if_pos (.inr h2), val r (h.each r hr) (bk e) h2 hz'.turn]
    show 1 - upw e.2 e.1 = _
    omega
   ·rw [ind_neg h1, ind_neg h2, if_neg fun hh => hh.elim h1 h2]; omega
 rw [h.winds M z'] at parts
 have key : sumL rest L = 0 ∧ (e ∉ edg o → ¬ onRim o z → side o z = 1) := by
  by_cases heo : e ∈ edg o
  ·have h1 := (h.both e he).1 heo
   rw [ind_neg h1, val o h.outer e heo hz'] at parts
   exact ⟨by omega, fun hn => absurd heo hn⟩
  ·have h1 : bk e ∈ edgs L := by
    by_cases hb : bk e ∈ edgs L
    ·exact hb
    ·exact absurd ((h.both e he).2 hb) heo
   have hno : ¬ onRim (mulR M o) z' := fun hn => by
    rcases rim o hn h.out with h2 | h2
    ·exact heo h2
    ·exact h.bk_out he h2
   have h2 := small o h.outer hno
   have h3 := sumL_nonneg rest0
   rw [ind_pos h1] at parts
   refine ⟨by omega, fun _ hzo => ?_⟩
   have h4 := far o List.mem_cons_self hzo
   exact (side_wind h.outer hzo).1.2 (by omega)
 have all0 := sumL_all rest0 key.1
 have hi : e ∈ edgs L := he
 refine ⟨?_, ?_, fun hzo => ?_⟩
 ·unfold nIn
  have e0 : sumL (fun r => if side r z = 1 then (1 : Int) else 0) L = sumL (fun _ => 0 * 0) L := sumL_ext fun r hr => ?_
  ·rw [e0, sumL_mul, Int.zero_mul]
  ·by_cases hro : onRim r z
   ·rw [if_neg]
    ·rfl
    ·have := side_zero.2 hro; omega
   ·have h1 := all0 r hr
    have h2 : ¬ (e ∈ edg r ∨ bk e ∈ edg r) := fun hh => hro (onz r hr hh)
    have h3 : rest r = wind (mulR M r) z' := if_neg h2
    rw [h3, far r (List.mem_cons_of_mem _ hr) hro] at h1
    rw [if_neg]
    ·rfl
    ·intro hs
     have := (side_wind (h.each r hr) hro).1.1 hs
     omega
 ·have h1 := ring_ind h.once h.each e
  rw [ind_pos he] at h1
  rw [← h1]
  refine sumL_le fun r hr => ?_
  by_cases h2 : e ∈ edg r
  ·rw [ind_pos h2, if_pos (side_zero.2 (onz r hr (.inl h2)))]; omega
  ·rw [ind_neg h2]; split <;> omega
 ·have heo : e ∉ edg o := fun heo => hzo (onRim_edg.2 ⟨e, heo, hon⟩)
  refine ⟨key.2 heo hzo, ?_⟩
  have h1 : bk e ∈ edgs L := by
   by_cases hb : bk e ∈ edgs L
   ·exact hb
   ·exact absurd ((h.both e he).2 hb) heo
  have e1 := ring_ind h.once h.each e
  have e2 := ring_ind h.once h.each (bk e)
  rw [ind_pos he] at e1
  rw [ind_pos h1] at e2
  have e3 := sumL_add (fun r => ind (e ∈ edg r)) (fun r => ind (bk e ∈ edg r)) L
  rw [e1, e2] at e3
  have e4 : sumL (fun r => ind (e ∈ edg r) + ind (bk e ∈ edg r)) L ≤ nOn L z := by
   refine sumL_le fun r hr => ?_
   by_cases h2 : e ∈ edg r
   ·have h3 : bk e ∉ edg r := fun h3 => edg_way (h.each r hr) h2 h3
    rw [ind_pos h2, ind_neg h3, if_pos (side_zero.2 (onz r hr (.inl h2)))]; omega
   ·rw [ind_neg h2]
    by_cases h3 : bk e ∈ edg r
    ·rw [ind_pos h3, if_pos (side_zero.2 (onz r hr (.inr h3)))]; omega
    ·rw [ind_neg h3]; split <;> omega
  omega
end
def Pair (a b : (Int × Int) × (Int × Int)) : Prop := meet a.1 a.2 b.1 b.2 ≠ 2 ∧ (meet a.1 a.2 b.1 b.2 = 1 → a.1 = b.1 ∨ a.1 = b.2 ∨ a.2 = b.1 ∨ a.2 = b.2) ∧ (meet a.1 a.2 b.1 b.2 = 3 → a = bk b)
theorem Pair.swap {a b : (Int × Int) × (Int × Int)} (h : Pair a b) : Pair b a := by
 obtain ⟨h1, h2, h3⟩ := h
 have e : meet b.1 b.2 a.1 a.2 = meet a.1 a.2 b.1 b.2 := meet_swap
 refine ⟨by rw [e]; exact h1, fun k => ?_, fun k => ?_⟩
 ·rcases h2 (e ▸ k) with h | h | h | h
  ·exact .inl h.symm
  ·exact .inr (.inr (.inl h.symm))
  ·exact .inr (.inl h.symm)
  ·exact .inr (.inr (.inr h.symm))
 ·rw [h3 (e ▸ k)]; rfl
theorem fit_of {o : List (Int × Int)} {L : List (List (Int × Int))} (ho : Sound o) (hs : ∀ r ∈ L, Sound r)
  (h1 : ∀ i (hi : i < (edgs L).length), (∀ j (hj : j < i), (edgs L)[j] ≠ (edgs L)[i]) ∧ ((edgs L)[i] ∈ edg o ↔ bk (edgs L)[i] ∉ edgs L))
  (h2 : ∀ i j (hij : i < j) (hj : j < (edgs L).length), Pair (edgs L)[i] (edgs L)[j])
  (h3 : ∀ e ∈ edg o, e ∈ edgs L) : Fit o L := by
 refine ⟨ho, hs, ?_, h3, fun e he => ?_, fun a ha b hb hab => ?_⟩
 ·exact List.pairwise_iff_getElem.2 fun i j hi hj hij => (h1 j hj).1 i hij
 ·obtain ⟨i, hi, rfl⟩ := List.getElem_of_mem he
  exact (h1 i hi).2
 ·obtain ⟨i, hi, rfl⟩ := List.getElem_of_mem ha
  obtain ⟨j, hj, rfl⟩ := List.getElem_of_mem hb
  rcases Nat.lt_trichotomy i j with k | k | k
  ·exact h2 i j k hj
  ·subst k; exact absurd rfl hab
  ·exact (h2 j i k hi).swap
theorem Fit.tries {o : List (Int × Int)} {L : List (List (Int × Int))} (h : Fit o L) : (∀ i (hi : i < (edgs L).length), (∀ j (hj : j < i), (edgs L)[j] ≠ (edgs L)[i]) ∧ ((edgs L)[i] ∈ edg o ↔ bk (edgs L)[i] ∉ edgs L)) ∧ (∀ i j (_ : i < j) (hj : j < (edgs L).length), Pair (edgs L)[i] (edgs L)[j]) := by
 have hn := List.pairwise_iff_getElem.1 h.once
 refine ⟨fun i hi => ⟨fun j hj => hn j i (by omega) hi hj, h.both _ (List.getElem_mem hi)⟩, fun i j hij hj => h.clear _ (List.getElem_mem _) _ (List.getElem_mem _) (hn i j (by omega) hj hij)⟩
end Go.Proofs.YtjlnjjmomohpaaaGreat
