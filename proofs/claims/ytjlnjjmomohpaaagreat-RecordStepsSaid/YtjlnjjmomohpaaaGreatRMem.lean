/- Layer record, plain: a plan's items, the order of keys, that no two items of a sound plan have one key. -/
import Derived.Test.YtjlnjjmomohpaaaGreatFNum
import Derived.Test.YtjlnjjmomohpaaaGreatGridP
import Derived.Test.YtjlnjjmomohpaaaGreatPgO
import Derived.Lib.Bytealg
import Derived.Test.YtjlnjjmomohpaaaGreatGRef
namespace Go.Proofs.YtjlnjjmomohpaaaGreat
open Go.RowKit

theorem nx_memR {r : List (Int × Int)} (h : 0 < r.length) (i : Nat) : nx r i ∈ r := by
 unfold nx
 rw [List.getD_eq_getElem?_getD, List.getElem?_eq_getElem (Nat.mod_lt i h)]
 exact List.getElem_mem _
abbrev bl (a b : List UInt8) : Bool := Go.Op.bytesLess a b
theorem bl_irrefl : ∀ a, bl a a = false
 |[] => rfl
 |x :: a => by
  have := bl_irrefl a
  simp only [bl, Go.Op.bytesLess, beq_self_eq_true, Bool.true_and, Bool.or_eq_false_iff, decide_eq_false_iff_not] at this ⊢
  exact ⟨UInt8.lt_irrefl x, this⟩
theorem bl_trans : ∀ a b c, bl a b = true → bl b c = true → bl a c = true
 |_, _, [], _, h => by cases ‹List UInt8› <;> simp [bl, Go.Op.bytesLess] at h
 |_, [], _ :: _, h, _ => by cases ‹List UInt8› <;> simp [bl, Go.Op.bytesLess] at h
 |[], _ :: _, _ :: _, _, _ => rfl
 |x :: a, y :: b, z :: c, h1, h2 => by
  have ih := bl_trans a b c
  simp only [bl, Go.Op.bytesLess, Bool.or_eq_true, Bool.and_eq_true, decide_eq_true_eq, beq_iff_eq] at h1 h2 ih ⊢
  rcases h1 with h1 | ⟨rfl, h1⟩
  ·rcases h2 with h2 | ⟨rfl, h2⟩
   ·exact .inl (UInt8.lt_trans h1 h2)
   ·exact .inl h1
  ·rcases h2 with h2 | ⟨rfl, h2⟩
   ·exact .inl h2
   ·exact .inr ⟨rfl, ih h1 h2⟩
theorem bl_total : ∀ a b, a ≠ b → bl a b = true ∨ bl b a = true
 |[], [], h => absurd rfl h
 |[], _ :: _, _ => .inl rfl
 |_ :: _, [], _ => .inr rfl
 |x :: a, y :: b, h => by
  simp only [bl, Go.Op.bytesLess, Bool.or_eq_true, Bool.and_eq_true, decide_eq_true_eq, beq_iff_eq]
  by_cases e : x = y
  ·subst e
   rcases bl_total a b (fun e => h (by rw [e])) with h1 | h1
   ·exact .inl (.inr ⟨rfl, h1⟩)
   ·exact .inr (.inr ⟨rfl, h1⟩)
  ·by_cases hlt : x < y
   ·exact .inl (.inl hlt)
   ·exact .inr (.inl (UInt8.lt_of_le_of_ne (UInt8.not_lt.1 hlt) (Ne.symm e)))
theorem bl_ntrans (a b c : List UInt8) (h1 : bl a b = false) (h2 : bl b c = false) : bl a c = false := by
 cases h : bl a c
 ·rfl
 ·exfalso
  by_cases e : a = b
  ·subst e; rw [h] at h2; cases h2
  ·rcases bl_total a b e with h3 | h3
   ·rw [h1] at h3; cases h3
   ·have := bl_trans b a c h3 h
    rw [h2] at this; cases this
def cmpK (a b : List UInt8) : Int := if bl a b = true then -1 else if a = b then 0 else 1
theorem cmpK_neg {a b : List UInt8} : cmpK a b < 0 ↔ bl a b = true := by
 unfold cmpK
 split
 ·rename_i h; exact ⟨fun _ => h, fun _ => by decide⟩
 ·rename_i h
  split
  ·exact ⟨fun h1 => absurd h1 (by decide), fun h1 => absurd h1 h⟩
  ·exact ⟨fun h1 => absurd h1 (by decide), fun h1 => absurd h1 h⟩
theorem cmpK_lib : ∀ a b, Go.Lib.compareBytes a b = cmpK a b
 |[], [] => rfl
 |[], _ :: _ => rfl
 |_ :: _, [] => rfl
 |x :: a, y :: b => by
  have ih := cmpK_lib a b
  unfold Go.Lib.compareBytes
  rw [ih]
  unfold cmpK
  simp only [bl, Go.Op.bytesLess, Bool.or_eq_true, Bool.and_eq_true, decide_eq_true_eq, beq_iff_eq, List.cons.injEq]
  by_cases h1 : x < y
  ·simp [h1]
  ·by_cases h2 : y < x
   ·have hne : x ≠ y := fun e => by subst e; exact UInt8.lt_irrefl _ h2
    simp [h1, h2, hne]
   ·have e : x = y := UInt8.le_antisymm (UInt8.not_lt.1 h2) (UInt8.not_lt.1 h1)
    subst e
    simp [h1]

abbrev Itm := List UInt8 × List UInt8
abbrev KeyNe (a b : Itm) : Prop := a.1 ≠ b.1
abbrev KeyLt (a b : Itm) : Prop := bl a.1 b.1 = true
theorem keyLt_of {l m : List Itm} (hp : l.Perm m) (hm : m.Pairwise KeyNe) (hs : l.Pairwise fun a b => bl b.1 a.1 = false) : l.Pairwise KeyLt := by
 have hl : l.Pairwise KeyNe := (hp.pairwise_iff (fun {a b} h e => h e.symm)).2 hm
 refine (hs.and hl).imp fun {a b} h => ?_
 rcases bl_total a.1 b.1 h.2 with h1 | h1
 ·exact h1
 ·rw [h.1] at h1; cases h1
def cN (x : Int) : Nat := (x + 1073741824).toNat
def pB8 (p : Int × Int) : List UInt8 := putL (cN p.1) 4 ++ putL (cN p.2) 4
def ptsB (l : List (Int × Int)) : List UInt8 := l.flatMap pB8
def chk (r : List (Int × Int)) (k : Nat) : List (Int × Int) := (r.drop (16 * k)).take 16
def nch (n : Nat) : Nat := (n + 15) / 16
def idK (n : Int) : List UInt8 := putL n.toNat 4
def outL (o : List (Int × Int)) : List Itm := (List.range (nch o.length)).map fun k => ([111, UInt8.ofNat k], ptsB (chk o k))
def parL (p : Par) : List Itm := (112 :: (idK p.id ++ [0]), p.own.data.toList) :: (List.range (nch p.ring.length)).map fun k => (112 :: (idK p.id ++ [UInt8.ofNat (k + 1)]), ptsB (chk p.ring k))
def edgL (p : Par) : List Itm := (edg p.ring).map fun e => (101 :: (pB8 e.1 ++ pB8 e.2), idK p.id)
def celL (p : Par) : List Itm := (spL (awL p.ring).1 (awL p.ring).2).map fun c => (99 :: UInt8.ofNat (c.1 + 128).toNat :: UInt8.ofNat (c.2 + 128).toNat :: idK p.id, [])
def onL (p : Par) : List Itm := parL p ++ edgL p ++ celL p
def itmL (o : List (Int × Int)) (l : List Par) : List Itm := outL o ++ l.flatMap onL
theorem pB8_len (p : Int × Int) : (pB8 p).length = 8 := by unfold pB8; rw [List.length_append, putL_len, putL_len]
theorem ptsB_len : ∀ l, (ptsB l).length = 8 * l.length
 |[] => rfl
 |p :: l => by unfold ptsB; rw [List.flatMap_cons, List.length_append, pB8_len]; have := ptsB_len l; unfold ptsB at this; rw [this, List.length_cons]; omega
theorem idK_len (n : Int) : (idK n).length = 4 := putL_len _ _
theorem putL_inj {a b k : Nat} (ha : a < 256 ^ k) (hb : b < 256 ^ k) (h : putL a k = putL b k) : a = b := by
 rw [← put_num ha, ← put_num hb, h]
theorem cN_inj {a b : Int} (ha : -1073741824 ≤ a ∧ a ≤ 1073741824) (hb : -1073741824 ≤ b ∧ b ≤ 1073741824) (h : putL (cN a) 4 = putL (cN b) 4) : a = b := by
 have h2 := putL_inj (by unfold cN; omega) (by unfold cN; omega) h
 unfold cN at h2; omega
theorem pB8_inj {p q : Int × Int} (hp : Gd p) (hq : Gd q) (h : pB8 p = pB8 q) : p = q := by
 unfold pB8 at h
 obtain ⟨h1, h2⟩ := List.append_inj h (by rw [putL_len, putL_len])
 unfold Gd at hp hq
 exact Prod.ext (cN_inj ⟨by omega, by omega⟩ ⟨by omega, by omega⟩ h1) (cN_inj ⟨by omega, by omega⟩ ⟨by omega, by omega⟩ h2)
theorem idK_inj {a b : Int} (ha : idB a = true) (hb : idB b = true) (h : idK a = idK b) : a = b := by
 unfold idB at ha hb
 rw [Bool.and_eq_true, decide_eq_true_iff, decide_eq_true_iff] at ha hb
 have h2 := putL_inj (by omega) (by omega) h
 omega
theorem mem_onL {p : Par} {x : Itm} (h : x ∈ onL p) :
  (∃ k, k ≤ nch p.ring.length ∧ x.1 = 112 :: (idK p.id ++ [UInt8.ofNat k])) ∨ (∃ e ∈ edg p.ring, x = (101 :: (pB8 e.1 ++ pB8 e.2), idK p.id)) ∨ ∃ c ∈ spL (awL p.ring).1 (awL p.ring).2, x = (99 :: UInt8.ofNat (c.1 + 128).toNat :: UInt8.ofNat (c.2 + 128).toNat :: idK p.id, []) := by
 unfold onL at h
 rw [List.mem_append, List.mem_append] at h
 rcases h with (h | h) | h
 ·unfold parL at h
  rcases List.mem_cons.1 h with rfl | h
  ·exact .inl ⟨0, Nat.zero_le _, rfl⟩
  ·obtain ⟨k, hk, rfl⟩ := List.mem_map.1 h
   rw [List.mem_range] at hk
   exact .inl ⟨k + 1, hk, rfl⟩
 ·obtain ⟨e, he, rfl⟩ := List.mem_map.1 h
  exact .inr (.inl ⟨e, he, rfl⟩)
 ·obtain ⟨c, hc, rfl⟩ := List.mem_map.1 h
  exact .inr (.inr ⟨c, hc, rfl⟩)
theorem mem_outL {o : List (Int × Int)} {x : Itm} (h : x ∈ outL o) : ∃ k, k < nch o.length ∧ x = ([111, UInt8.ofNat k], ptsB (chk o k)) := by
 obtain ⟨k, hk, rfl⟩ := List.mem_map.1 h
 exact ⟨k, List.mem_range.1 hk, rfl⟩
theorem nch_le {n : Nat} (h : n ≤ 128) : nch n ≤ 8 := by unfold nch; omega
theorem ofNat_ne {a b : Nat} (ha : a < 256) (hb : b < 256) (h : a ≠ b) : UInt8.ofNat a ≠ UInt8.ofNat b := fun e => by
 have := congrArg UInt8.toNat e
 rw [UInt8.toNat_ofNat', UInt8.toNat_ofNat'] at this
 omega
theorem range_ne {n : Nat} {f : Nat → Itm} (h : ∀ i j, i < j → j < n → (f i).1 ≠ (f j).1) : ((List.range n).map f).Pairwise KeyNe := by
 rw [List.pairwise_map]
 exact List.pairwise_lt_range.imp_of_mem fun {a b} _ hb hab => h a b hab (List.mem_range.1 hb)
theorem outL_ne {o : List (Int × Int)} (h : o.length ≤ 128) : (outL o).Pairwise KeyNe := by
 have := nch_le h
 refine range_ne fun i j hij hj e => ?_
 exact ofNat_ne (by omega) (by omega) (by omega) (List.cons.inj (List.cons.inj e).2).1
theorem parL_ne {p : Par} (h : p.ring.length ≤ 128) : (parL p).Pairwise KeyNe := by
 have := nch_le h
 unfold parL
 rw [List.pairwise_cons]
 constructor
 ·intro x hx e
  obtain ⟨k, hk, rfl⟩ := List.mem_map.1 hx
  rw [List.mem_range] at hk
  have h2 := List.append_cancel_left (List.cons.inj e).2
  exact ofNat_ne (a := 0) (b := k + 1) (by omega) (by omega) (by omega) (List.cons.inj h2).1
 ·refine range_ne fun i j hij hj e => ?_
  have h2 := List.append_cancel_left (List.cons.inj e).2
  exact ofNat_ne (a := i + 1) (b := j + 1) (by omega) (by omega) (by omega) (List.cons.inj h2).1
theorem edgL_ne {p : Par} (hg : ∀ q ∈ p.ring, Gd q) (h0 : 0 < p.ring.length) (h : (edg p.ring).Nodup) : (edgL p).Pairwise KeyNe := by
 have hgd : ∀ e ∈ edg p.ring, Gd e.1 ∧ Gd e.2 := fun e he => by
  obtain ⟨i, hi, rfl⟩ := mem_edg.1 he
  exact ⟨hg _ (nx_memR h0 i), hg _ (nx_memR h0 (i + 1))⟩
 unfold edgL
 rw [List.pairwise_map]
 refine List.Pairwise.imp_of_mem (fun {a b} ha hb hab e => hab ?_) h
 obtain ⟨h1, h2⟩ := List.append_inj (List.cons.inj e).2 (by rw [pB8_len, pB8_len])
 exact Prod.ext (pB8_inj (hgd a ha).1 (hgd b hb).1 h1) (pB8_inj (hgd a ha).2 (hgd b hb).2 h2)
theorem cdv_lim {n : Int} (h1 : -1073741824 ≤ n) (h2 : n ≤ 1073741824) : -4 ≤ cdv n ∧ cdv n ≤ 4 := by unfold cdv; omega
theorem cell_lim {r : List (Int × Int)} (hg : ∀ i, Gd (nx r i)) {c : Int × Int} (hc : c ∈ spL (awL r).1 (awL r).2) : (-4 ≤ c.1 ∧ c.1 ≤ 4) ∧ -4 ≤ c.2 ∧ c.2 ≤ 4 := by
 obtain ⟨a, b⟩ := awT_gd hg r.length
 obtain ⟨h1, h2⟩ := awT_le r r.length
 unfold awL at hc
 obtain ⟨h3, h4⟩ := (mem_spL h1 h2).1 hc
 unfold Gd at a b
 have e1 := cdv_lim (n := (awT r r.length).1.1) (by omega) (by omega)
 have e2 := cdv_lim (n := (awT r r.length).1.2) (by omega) (by omega)
 have e3 := cdv_lim (n := (awT r r.length).2.1) (by omega) (by omega)
 have e4 := cdv_lim (n := (awT r r.length).2.2) (by omega) (by omega)
 omega
theorem celL_ne {p : Par} (hg : ∀ i, Gd (nx p.ring i)) : (celL p).Pairwise KeyNe := by
 unfold celL
 rw [List.pairwise_map]
 refine List.Pairwise.imp_of_mem (fun {a b} ha hb hab e => ?_) (spL_lex _ _)
 have la := cell_lim hg ha
 have lb := cell_lim hg hb
 have e1 := (List.cons.inj (List.cons.inj e).2).1
 have e2 := (List.cons.inj (List.cons.inj (List.cons.inj e).2).2).1
 have f1 : (a.1 + 128).toNat = (b.1 + 128).toNat := Decidable.byContradiction fun h => ofNat_ne (by omega) (by omega) h e1
 have f2 : (a.2 + 128).toNat = (b.2 + 128).toNat := Decidable.byContradiction fun h => ofNat_ne (by omega) (by omega) h e2
 unfold LexP at hab
 omega
theorem onL_ne {p : Par} (hg : ∀ q ∈ p.ring, Gd q) (h0 : 0 < p.ring.length) (hl : p.ring.length ≤ 128) (h : (edg p.ring).Nodup) : (onL p).Pairwise KeyNe := by
 unfold onL
 rw [List.pairwise_append, List.pairwise_append]
 refine ⟨⟨parL_ne hl, edgL_ne hg h0 h, fun a ha b hb e => ?_⟩, celL_ne (fun i => hg _ (nx_memR h0 i)), fun a ha b hb e => ?_⟩
 ·obtain ⟨e2, he2, rfl⟩ := List.mem_map.1 hb
  rcases List.mem_cons.1 ha with rfl | ha
  ·exact absurd (List.cons.inj e).1 (by decide)
  ·obtain ⟨k, hk, rfl⟩ := List.mem_map.1 ha
   exact absurd (List.cons.inj e).1 (by decide)
 ·obtain ⟨c, hc, rfl⟩ := List.mem_map.1 hb
  rcases List.mem_append.1 ha with ha | ha
  ·rcases List.mem_cons.1 ha with rfl | ha
   ·exact absurd (List.cons.inj e).1 (by decide)
   ·obtain ⟨k, hk, rfl⟩ := List.mem_map.1 ha
    exact absurd (List.cons.inj e).1 (by decide)
  ·obtain ⟨e2, he2, rfl⟩ := List.mem_map.1 ha
   exact absurd (List.cons.inj e).1 (by decide)
theorem two_ne {p q : Par} (hp : ∀ x ∈ p.ring, Gd x) (hq : ∀ x ∈ q.ring, Gd x) (hp0 : 0 < p.ring.length) (hq0 : 0 < q.ring.length) (hid : idK p.id ≠ idK q.id) (he : ∀ e ∈ edg p.ring, e ∉ edg q.ring) :
  ∀ a ∈ onL p, ∀ b ∈ onL q, KeyNe a b := by
 intro a ha b hb e
 have hgd : ∀ {r : List (Int × Int)}, (∀ x ∈ r, Gd x) → 0 < r.length → ∀ e ∈ edg r, Gd e.1 ∧ Gd e.2 := fun hg h0 e he => by
  obtain ⟨i, hi, rfl⟩ := mem_edg.1 he
  exact ⟨hg _ (nx_memR h0 i), hg _ (nx_memR h0 (i + 1))⟩
 rcases mem_onL ha with ⟨k, -, h1⟩ | ⟨e1, h1, rfl⟩ | ⟨c, -, rfl⟩
 ·rcases mem_onL hb with ⟨m, -, h2⟩ | ⟨e2, h2, rfl⟩ | ⟨d, -, rfl⟩
  ·rw [h1, h2] at e
   exact hid (List.append_inj (List.cons.inj e).2 (by rw [idK_len, idK_len])).1
  ·rw [h1] at e; exact absurd (List.cons.inj e).1 (by decide)
  ·rw [h1] at e; exact absurd (List.cons.inj e).1 (by decide)
 ·rcases mem_onL hb with ⟨m, -, h2⟩ | ⟨e2, h2, rfl⟩ | ⟨d, -, rfl⟩
  ·rw [h2] at e; exact absurd (List.cons.inj e).1 (by decide)
  ·obtain ⟨g1, g2⟩ := List.append_inj (List.cons.inj e).2 (by rw [pB8_len, pB8_len])
   have : e1 = e2 := Prod.ext (pB8_inj (hgd hp hp0 e1 h1).1 (hgd hq hq0 e2 h2).1 g1) (pB8_inj (hgd hp hp0 e1 h1).2 (hgd hq hq0 e2 h2).2 g2)
   exact he e1 h1 (this ▸ h2)
  ·exact absurd (List.cons.inj e).1 (by decide)
 ·rcases mem_onL hb with ⟨m, -, h2⟩ | ⟨e2, h2, rfl⟩ | ⟨d, -, rfl⟩
  ·rw [h2] at e; exact absurd (List.cons.inj e).1 (by decide)
  ·exact absurd (List.cons.inj e).1 (by decide)
  ·exact hid (List.cons.inj (List.cons.inj (List.cons.inj e).2).2).2
theorem out_ne {o : List (Int × Int)} {p : Par} : ∀ a ∈ outL o, ∀ b ∈ onL p, KeyNe a b := by
 intro a ha b hb e
 obtain ⟨k, -, rfl⟩ := mem_outL ha
 rcases mem_onL hb with ⟨m, -, h2⟩ | ⟨e2, h2, rfl⟩ | ⟨d, -, rfl⟩
 ·rw [h2] at e; exact absurd (List.cons.inj e).1 (by decide)
 ·exact absurd (List.cons.inj e).1 (by decide)
 ·exact absurd (List.cons.inj e).1 (by decide)
theorem check_ids {o : List (Int × Int)} {l : List PV} (h : CheckP o l) : (∀ x ∈ l, idB x.par.id = true ∧ OwnOk x.par.own) ∧ l.Pairwise fun a b => a.par.id < b.par.id := by
 obtain ⟨hF, -, -⟩ := h.1
 have hat : ∀ k (hk : k < l.length), idB l[k].par.id = true ∧ lastI l k < l[k].par.id ∧ OwnOk l[k].par.own := fun k hk => by
  obtain ⟨a, b, c, -⟩ := hF k hk l[k] (List.getElem?_eq_getElem hk)
  exact ⟨a, b, c⟩
 constructor
 ·intro x hx
  obtain ⟨k, hk, rfl⟩ := List.getElem_of_mem hx
  exact ⟨(hat k hk).1, (hat k hk).2.2⟩
 ·rw [List.pairwise_iff_getElem]
  intro i j hi hj hij
  have hstep : ∀ d, ∀ (hk : i + d + 1 < l.length), l[i].par.id < l[i + d + 1].par.id := by
   intro d
   induction d with
   |zero =>
    intro hk
    have := (hat (i + 0 + 1) hk).2.1
    have e : lastI l (i + 0 + 1) = l[i].par.id := by show (match l[i]? with | some x => x.par.id | none => 0) = _; rw [List.getElem?_eq_getElem hi]
    rw [e] at this; exact this
   |succ d ih =>
    intro hk
    have h1 := ih (by omega)
    have := (hat (i + (d + 1) + 1) hk).2.1
    have e : lastI l (i + (d + 1) + 1) = l[i + d + 1].par.id := by
     show (match l[i + (d + 1)]? with | some x => x.par.id | none => 0) = _
     have : i + (d + 1) = i + d + 1 := by omega
     rw [List.getElem?_eq_getElem (by omega)]
     simp only [this]
    rw [e] at this; omega
  have := hstep (j - i - 1) (by omega)
  have e : i + (j - i - 1) + 1 = j := by omega
  simp only [e] at this
  exact this
theorem itmL_ne {o : List (Int × Int)} {l : List PV} (h : CheckP o l) : (itmL o (l.map PV.par)).Pairwise KeyNe := by
 obtain ⟨h1, h2⟩ := check_ids h
 obtain ⟨-, hno, hnl, -, hed, -, -⟩ := h
 have hs := fun x hx => normP_small (hnl x hx)
 have h0 : ∀ x ∈ l, 0 < x.par.ring.length := fun x hx => by have := (norm_sound (hnl x hx)).1; omega
 have hnd : (edgs (rings l)).Pairwise (· ≠ ·) := List.pairwise_iff_getElem.2 fun i j hi hj hij e => by
  have := (hed j hj _ (List.getElem?_eq_getElem hj)).1 i hij
  exact this (by rw [List.getElem?_eq_getElem hi, e])
 unfold itmL
 rw [List.flatMap_map, List.pairwise_append, List.pairwise_flatMap]
 have hnd2 := hnd
 unfold edgs rings at hnd2
 rw [List.flatMap_map, List.pairwise_flatMap] at hnd2
 refine ⟨outL_ne (normP_small hno).2.1, ⟨fun x hx => onL_ne (hs x hx).2.2 (h0 x hx) (hs x hx).2.1 (hnd2.1 x hx), ?_⟩, fun a ha b hb => ?_⟩
 ·refine (h2.and hnd2.2).imp_of_mem fun {a b} ha hb hab => two_ne (hs a ha).2.2 (hs b hb).2.2 (h0 a ha) (h0 b hb) (fun e => ?_) fun e he1 he2 => hab.2 e he1 e he2 rfl
  have := idK_inj (h1 a ha).1 (h1 b hb).1 e
  omega
 ·obtain ⟨x, hx, hb⟩ := List.mem_flatMap.1 hb
  exact out_ne a ha b hb
theorem outL_len (o : List (Int × Int)) : (outL o).length = nch o.length := by unfold outL; simp
theorem onL_len {p : Par} (hg : ∀ i, Gd (nx p.ring i)) (hl : p.ring.length ≤ 128) : (onL p).length ≤ 218 := by
 have h1 := nch_le hl
 obtain ⟨a, b⟩ := awT_gd hg p.ring.length
 have h2 := spL_len_le a b
 unfold onL parL edgL celL
 simp only [List.length_append, List.length_cons, List.length_map, List.length_range, edg_len]
 unfold awL
 omega
theorem itmL_len {o : List (Int × Int)} {l : List PV} (h : CheckP o l) : (itmL o (l.map PV.par)).length ≤ 14000 := by
 obtain ⟨hF, hno, hnl, -⟩ := h
 have h1 := nch_le (normP_small hno).2.1
 have hb : ∀ m : List PV, (∀ x ∈ m, NormP x.par.ring) → (m.flatMap fun x => onL x.par).length ≤ 218 * m.length := by
  intro m
  induction m with
  |nil => intro _; simp
  |cons x m ih =>
   intro hm
   have := ih fun y hy => hm y (List.mem_cons_of_mem _ hy)
   have hx := hm x List.mem_cons_self
   have hs := normP_small hx
   have h0 : 0 < x.par.ring.length := by have := (norm_sound hx).1; omega
   have h2 := onL_len (p := x.par) (fun i => hs.2.2 _ (nx_memR h0 i)) hs.2.1
   rw [List.flatMap_cons, List.length_append, List.length_cons]
   omega
 unfold itmL
 rw [List.length_append, outL_len, List.flatMap_map]
 have := hb l hnl
 have := hF.2.2.1
 omega
end Go.Proofs.YtjlnjjmomohpaaaGreat

namespace Go.Proofs.YtjlnjjmomohpaaaGreat
open Go.RowKit Go.Lib

def KeepT (T : TypeId) (W W' : World) : Prop := W.heap.size ≤ W'.heap.size ∧ ∀ (g : Nat) (cs : Array Value) (t : TypeId) (fr : Nat × Nat), W.heap[g]? = some (.cells cs t fr) → t ≠ T → W'.heap[g]? = some (.cells cs t fr)
section
variable {T : TypeId} {W W' W'' : World}
theorem KeepT.refl (T : TypeId) (W : World) : KeepT T W W := ⟨Nat.le_refl _, fun _ _ _ _ h _ => h⟩
theorem KeepT.trans (h : KeepT T W W') (k : KeepT T W' W'') : KeepT T W W'' := ⟨Nat.le_trans h.1 k.1, fun g cs t fr hg ht => k.2 g cs t fr (h.2 g cs t fr hg ht) ht⟩
theorem KeepT.below (h : Below W.heap.size W W') : KeepT T W W' := ⟨h.size, fun g _ _ _ hg _ => (h.block g (blk_lt hg)).trans hg⟩
theorem KeepT.grown {b s n : Nat} {v : Value} {xs : List Value} (hv : W.ownsRow b T s v n xs) (hg : W.grownBy W' v.ownBlock) : KeepT T W W' := ⟨hg.size, fun g cs t fr hh ht => (hg.block g (blk_lt hh) (fun e => by
 rcases hv.2 with ⟨rfl, _⟩ | ⟨k, cap, cur, rfl, _, hk, _⟩
 ·cases e
 ·obtain rfl : g = k := Option.some.inj e
  rw [hh] at hk; cases hk; exact ht rfl)).trans hh⟩
theorem KeepT.set {g : Nat} {cs : Array Value} {fr : Nat × Nat} (hg : W.heap[g]? = some (.cells cs T fr)) (i : Nat) (x : Value) : KeepT T W (W.setCell ⟨g, i, none⟩ x) := ⟨by simp [World.setCell], fun k _ _ _ hk ht => (Below.heap_setCell _ _ _ k (fun e => by
 simp only at e
 subst e; rw [hk] at hg; cases hg; exact ht rfl)).trans hk⟩
end
def ByT (W : World) (A : Option Addr) (s : List UInt8) : Prop := 0 < s.length → ∃ (g o : Nat) (cs : Array Value) (fr : Nat × Nat), A = some ⟨g, o, none⟩ ∧ W.heap[g]? = some (.cells cs 5 fr) ∧ ∀ i, i < s.length → cs[o + i]? = some (.int .u8 (s.getD i 0).toNat)
section
variable {W W' : World} {A : Option Addr} {s : List UInt8} {T : TypeId}
theorem ByT.keep (h : ByT W A s) (hk : KeepT T W W') (hT : 5 ≠ T) : ByT W' A s := fun h0 => by
 obtain ⟨g, o, cs, fr, e, hg, hc⟩ := h h0
 exact ⟨g, o, cs, fr, e, hk.2 _ _ _ _ hg hT, hc⟩
theorem ByT.on (h : ByT W A s) (hb : Below W.heap.size W W') : ByT W' A s := fun h0 => by
 obtain ⟨g, o, cs, fr, e, hg, hc⟩ := h h0
 exact ⟨g, o, cs, fr, e, (hb.block g (blk_lt hg)).trans hg, hc⟩
theorem ByT.bytes (h : ByT W A s) : BytesAt W A s.length s := fun h0 => by
 obtain ⟨g, o, cs, fr, e, hg, hc⟩ := h h0
 exact ⟨g, o, e, fun i hi => (cell_of_row W g (o + i) cs _ fr hg).trans (hc i hi)⟩
theorem ByT.nil (W : World) (A : Option Addr) : ByT W A [] := fun h => absurd h (by simp)
end
theorem BRow.byT {w0 W : World} {v : Value} {l : List UInt8} (h : BRow w0 v l W) : ∃ A c, v = .slice A l.length c ∧ ByT W A l ∧ l.length ≤ c ∧ c ≤ maxLen ∧ (A = Option.none → c = 0) := by
 rcases h.2.2 with ⟨rfl, h0⟩ | ⟨g, cap, cur, rfl, hg0, hg, hn, hm, hs, ht⟩
 ·rw [h0]
  exact ⟨Option.none, 0, rfl, fun h1 => absurd h1 (by omega), Nat.le_refl _, by unfold maxLen; omega, fun _ => rfl⟩
 ·refine ⟨_, cap, rfl, fun h0 => ⟨g, 0, cur, (0, 0), rfl, hg, fun i hi => ?_⟩, hn, hm, fun e => by cases e⟩
  rw [Nat.zero_add, ← Array.getElem?_toList]
  have := congrArg (·[i]?) ht
  simp only [List.getElem?_take, Nat.mul_one, hi, if_true] at this
  rw [this]
  simp [byV, List.getD_eq_getElem?_getD, List.getElem?_eq_getElem hi]
structure IV where
 key : List UInt8
 kA : Option Addr
 kc : Nat
 val : List UInt8
 vA : Option Addr
 vc : Nat
def IV.it (x : IV) : Itm := (x.key, x.val)
def encI (x : IV) : List Value := [.slice x.kA x.key.length x.kc, .slice x.vA x.val.length x.vc]
theorem kindI : Kind 39 encI 2 48 := Kind.mk' (z := .agg #[.slice none 0 0, .slice none 0 0]) (fun _ => rfl) (fun a u hu => by
 simp only [encI, List.mem_cons, List.not_mem_nil, or_false] at hu
 rcases hu with rfl | rfl <;> rfl) (by decide) (by kernel_rfl) rfl
structure ItAt (W : World) (x : IV) : Prop where
 key : ByT W x.kA x.key
 val : ByT W x.vA x.val
 kcap : x.key.length ≤ x.kc ∧ x.kc ≤ maxLen ∧ (x.kA = none → x.kc = 0)
 vcap : x.val.length ≤ x.vc ∧ x.vc ≤ maxLen ∧ (x.vA = none → x.vc = 0)
section
variable {w w1 W W' : World} {x : IV} {v : Value} {l : List Itm} {T : TypeId}
theorem ItAt.keep (h : ItAt W x) (hk : KeepT T W W') (hT : 5 ≠ T) : ItAt W' x := ⟨h.key.keep hk hT, h.val.keep hk hT, h.kcap, h.vcap⟩
theorem ItAt.on (h : ItAt W x) (hb : Below W.heap.size W W') : ItAt W' x := ⟨h.key.on hb, h.val.on hb, h.kcap, h.vcap⟩
def ItRow (w : World) (v : Value) (l : List Itm) (W : World) : Prop := ∃ l' : List IV, RowI w 39 2 encI v l' W ∧ (∀ x ∈ l', ItAt W x) ∧ l'.map IV.it = l
theorem ItRow.on (h : ItRow w v l W) (hb : Below W.heap.size W W') : ItRow w v l W' := by
 obtain ⟨l', h1, h2, h3⟩ := h
 exact ⟨l', h1.on hb, fun x hx => (h2 x hx).on hb, h3⟩
theorem ItRow.below (h : ItRow w v l W) : Below w.heap.size w W := h.choose_spec.1.1
theorem ItRow.base (h : ItRow w1 v l W) (hb : Below w.heap.size w w1) : ItRow w v l W := by
 obtain ⟨l', ⟨h1, h4, h5⟩, h2, h3⟩ := h
 exact ⟨l', ⟨Below.trans hb (h1.mono hb.size), h4, h5.imp id (fun ⟨g, cap, cur, e, hg, r⟩ => ⟨g, cap, cur, e, Nat.le_trans hb.size hg, r⟩)⟩, h2, h3⟩
theorem ItRow.nil (hb : Below w.heap.size w W) : ItRow w (.slice none 0 0) [] W := ⟨[], RowI.nil hb, fun x hx => (by cases hx), rfl⟩
def ItsAt (W : World) (A : Option Addr) (l' : List IV) : Prop := Items W W.heap.size A encI l' ∧ ∀ x ∈ l', ItAt W x
theorem ItsAt.on {A : Option Addr} {l' : List IV} (h : ItsAt W A l') (hb : Below W.heap.size W W') : ItsAt W' A l' := ⟨h.1.on hb, fun x hx => (h.2 x hx).on hb⟩
theorem ItRow.items (h : ItRow w v l W) : ∃ A c l', v = .slice A l.length c ∧ ItsAt W A l' ∧ NilOk A c ∧ l'.map IV.it = l ∧ l'.length = l.length := by
 obtain ⟨l', h1, h2, h3⟩ := h
 obtain ⟨A, c, e, hi, hn⟩ := h1.items
 have hl : l'.length = l.length := by rw [← h3, List.length_map]
 exact ⟨A, c, l', by rw [← hl]; exact e, ⟨hi, h2⟩, hn, h3, hl⟩
end
section
variable {w0 W : World} {v : Value} {l : List Itm}
theorem append_it (HR : ItRow w0 v l W) (x : IV) (hx : ItAt W x) (t' : TypeId) {cs : Array Value} (hcs : cs.toList = encI x) (hn : l.length + 1 ≤ 1000000)
  {ops : Array Oper} {rest : List Oper} {o : Oper} {a : Act} {Q : Exit → Act → World → Prop} (hgd : o.guard = none) (s y : Operand)
  (ho : o.op = .call { callee := .builtin .append, args := #[s, y], argTypes := #[29, 29] })
  (hs : a.eval s = v) (c : Nat) (hy : a.eval y = .slice (some ⟨W.heap.size, 0, none⟩) 1 c)
  (h : ∀ v' w', ItRow w0 v' (l ++ [x.it]) w' → KeepT 39 W w' → wpList Tryz.prog ops Q rest (a.put o.dst v') w') :
  wpList Tryz.prog ops Q (o :: rest) a (W.alloc (Obj.cells cs t' (0, 0))) := by
 obtain ⟨l', h1, h2, h3⟩ := HR
 obtain ⟨i0, z, hi, hz0, hz1, hz2, hz3⟩ := kindI.info
 have hl : l'.length = l.length := by rw [← h3, List.length_map]
 have hA := h1.alloc (Obj.cells cs t' (0, 0))
 have hnew := heap_alloc_new W (Obj.cells cs t' (0, 0))
 have hb1 : Below W.heap.size W (W.alloc (Obj.cells cs t' (0, 0))) := (Below.refl _ W).alloc (Nat.le_refl _) _
 refine wpList_append_own _ hgd s y 29 ho w0.heap.size 39 i0 z 2 48 Tryz.underlying29 hi hz0 hz1 hz2 hz3 (by decide) v l'.length (l'.flatMap encI) hs hA.2 ⟨W.heap.size, 0, none⟩ 1 c (encI x) hy (by rw [kindI.len]) ?_ (kindI.one x) (by unfold maxLen; omega) (by omega) hA.1.size ?_
 ·intro j u hu
  rw [add_off, blk_cell hnew, ← hu, ← hcs, Array.getElem?_toList]
 ·intro v' w' hown hgrow _
  have hk : KeepT 39 W w' := (KeepT.below hb1).trans (KeepT.grown hA.2 hgrow)
  refine h v' w' ⟨l' ++ [x], ⟨grownB hA.1 (Nat.le_refl _) hgrow (fun k hk => (hA.2.lt k hk).1), ?_⟩, fun y hy => ?_, by rw [List.map_append, h3]; rfl⟩ hk
  ·rw [List.length_append, List.flatMap_append, List.flatMap_cons, List.flatMap_nil, List.append_nil]
   exact hown
  ·rcases List.mem_append.1 hy with hy | hy
   ·exact (h2 y hy).keep hk (by decide)
   ·rw [List.mem_singleton.1 hy]; exact hx.keep hk (by decide)
theorem append_its (HR : ItRow w0 v l W) (qs : List IV) (A : Option Addr) (c : Nat) (hq : ItsAt W A qs) (hnil : NilOk A c) (hn : l.length + qs.length ≤ 1000000)
  {ops : Array Oper} {rest : List Oper} {o : Oper} {a : Act} {Q : Exit → Act → World → Prop} (hgd : o.guard = none) (s y : Operand)
  (ho : o.op = .call { callee := .builtin .append, args := #[s, y], argTypes := #[29, 29] })
  (hs : a.eval s = v) (hy : a.eval y = .slice A qs.length c)
  (h : ∀ v' w', ItRow w0 v' (l ++ qs.map IV.it) w' → KeepT 39 W w' → wpList Tryz.prog ops Q rest (a.put o.dst v') w') :
  wpList Tryz.prog ops Q (o :: rest) a W := by
 obtain ⟨l', h1, h2, h3⟩ := HR
 obtain ⟨i0, z, hi, hz0, hz1, hz2, hz3⟩ := kindI.info
 have hl : l'.length = l.length := by rw [← h3, List.length_map]
 cases A with
 |none =>
  obtain rfl : qs = [] := by
   cases qs with
   |nil => rfl
   |cons p q => obtain ⟨_, e, _⟩ := hq.1 (by simp); cases e
  obtain rfl := hnil rfl
  refine wpList_append_own_none hgd s y 29 ho w0.heap.size 39 i0 2 Tryz.underlying29 hi v l'.length (l'.flatMap encI) hs h1.2 hy ?_
  have := h v W ⟨l', h1, h2, by rw [h3]; simp⟩ (KeepT.refl _ _)
  exact this
 |some ad =>
  refine wpList_append_own _ hgd s y 29 ho w0.heap.size 39 i0 z 2 48 Tryz.underlying29 hi hz0 hz1 hz2 hz3 (by decide) v l'.length (l'.flatMap encI) hs h1.2 ad qs.length c (qs.flatMap encI) hy (flat_len kindI.len qs) ?_ (flat_one kindI.one qs) (by unfold maxLen; omega) (by omega) h1.1.size ?_
  ·intro j u hu
   obtain ⟨ad', e, -, hc⟩ := hq.1 (fun e => by subst e; simp at hu)
   obtain rfl := Option.some.inj e
   exact hc j u hu
  ·intro v' w' hown hgrow _
   have hk : KeepT 39 W w' := KeepT.grown h1.2 hgrow
   refine h v' w' ⟨l' ++ qs, ⟨grownB h1.1 (Nat.le_refl _) hgrow (fun k hk => (h1.2.lt k hk).1), ?_⟩, fun y hy => ?_, by rw [List.map_append, h3]⟩ hk
   ·rw [List.length_append, List.flatMap_append]
    exact hown
   ·rcases List.mem_append.1 hy with hy | hy
    ·exact (h2 y hy).keep hk (by decide)
    ·exact (hq.2 y hy).keep hk (by decide)
end

theorem Hold.keepT {w W W' : World} {L : List (Nat × Array Value × TypeId)} {T : TypeId} (h : Hold w L W) (hb : Below w.heap.size w W') (hk : KeepT T W W') (ht : ∀ e ∈ L, e.2.2 ≠ T) : Hold w L W' :=
 ⟨hb, fun e he => ⟨hk.2 _ _ _ _ (h.2.1 e he).1 (ht e he), (h.2.1 e he).2⟩, h.2.2⟩
theorem cN_wrap {x : Int} (h : -1073741824 ≤ x ∧ x ≤ 1073741824) : IntKind.i64.wrap (x + 1073741824) = ((cN x : Nat) : Int) ∧ cN x < 4294967296 := by
 have e := IntWalk.i64_in (x + 1073741824) (by omega)
 unfold cN
 refine ⟨by rw [e]; omega, by omega⟩
set_option maxHeartbeats 1000000 in
theorem putID_any {W : World} {A : Option Addr} {c : Nat} {s : List UInt8} (n : Int) (hi : 0 ≤ n ∧ n ≤ 1073741824) (hB : BytesAt W A s.length s) (hn : A = none → c = 0) (hm : s.length ≤ 1000000) :
  Calls Tryz.prog 64 #[.slice A s.length c, .int .i64 n] W fun e w' => ∃ v, e = .returned v ∧ BRow W v (s ++ idK n) w' := by
 have h := PutNum_any (A := A) (c := c) n 4 hB hn (by omega) (by omega)
 have e : putB s n 4 = s ++ idK n := by
  have := putB_nat s n.toNat 4 (by decide) (by decide) (by omega)
  rw [show ((n.toNat : Nat) : Int) = n by omega] at this
  exact this
 rw [e] at h
 have HP := Lib.hid h
 clear h e hB hn
 generalize s ++ idK n = t at *
 go_enter Tryz.func64, Tryz.ntmps64
 go_wp2_with (go_at_call 62; go_must ((with_reducible refine HP.out.mono ?_); rintro e' w1 ⟨v1, rfl, hR1⟩; have HR1 := Lib.hid hR1; clear hR1))
 go_ret
 exact ⟨_, rfl, HR1.out⟩
set_option maxHeartbeats 2000000 in
theorem putPoint_any {W : World} {A : Option Addr} {c : Nat} {s : List UInt8} (p : Int × Int) (hp : Gd p) (hB : BytesAt W A s.length s) (hn : A = none → c = 0) (hm : s.length ≤ 1000000) :
  Calls Tryz.prog 65 #[.slice A s.length c, .agg #[.int .i64 p.1, .int .i64 p.2]] W fun e w' => ∃ v, e = .returned v ∧ BRow W v (s ++ pB8 p) w' := by
 unfold Gd at hp
 have HQ := (Hold.refl W).new #[.int .i64 p.1, .int .i64 p.2] 56
 obtain ⟨e1, l1⟩ := cN_wrap (x := p.1) (by omega)
 obtain ⟨e2, l2⟩ := cN_wrap (x := p.2) (by omega)
 have hb1 : Below W.heap.size W (W.alloc (Obj.cells #[.int .i64 p.1, .int .i64 p.2] 56 (0, 0))) := (Below.refl _ W).alloc (Nat.le_refl _) _
 have h1 := PutNum_any (A := A) (c := c) ((cN p.1 : Nat) : Int) 4 (hB.on hb1) hn (by omega) (by omega)
 rw [show putB s ((cN p.1 : Nat) : Int) 4 = s ++ putL (cN p.1) 4 from putB_nat s (cN p.1) 4 (by decide) (by decide) (by omega)] at h1
 have h2 := fun (W2 : World) (A2 : Option Addr) (c2 : Nat) (hB2 : BytesAt W2 A2 (s ++ putL (cN p.1) 4).length (s ++ putL (cN p.1) 4)) (hn2 : A2 = none → c2 = 0) => PutNum_any (A := A2) (c := c2) ((cN p.2 : Nat) : Int) 4 hB2 hn2 (by rw [List.length_append, putL_len]; omega) (by omega)
 rw [show putB (s ++ putL (cN p.1) 4) ((cN p.2 : Nat) : Int) 4 = s ++ putL (cN p.1) 4 ++ putL (cN p.2) 4 from putB_nat _ (cN p.2) 4 (by decide) (by decide) (by omega), show s ++ putL (cN p.1) 4 ++ putL (cN p.2) 4 = s ++ pB8 p by unfold pB8; rw [List.append_assoc]] at h2
 have H1 := Lib.hid h1
 have H2 := Lib.hid h2
 have HB := Lib.hid hb1
 clear h1 h2 hB hp l1 l2 hb1 hn
 generalize s ++ putL (cN p.1) 4 = t at *
 generalize s ++ pB8 p = u at *
 generalize cN p.1 = n1 at *
 generalize cN p.2 = n2 at *
 go_enter Tryz.func65, Tryz.ntmps65
 go_upto_region 1 with (fail)
 generalize (World.alloc _ _) = W1 at HQ HB H1 ⊢
 obtain ⟨x0, x1⟩ := HQ.pt (.head _)
 go_upto_region 2 with (go_at_call 62; go_must ((with_reducible refine H1.out.mono ?_); rintro e' w2 ⟨v1, rfl, hR1⟩; obtain ⟨A2, c2, rfl, hb2, -, -, hn2⟩ := hR1.byT; have H3 := Lib.hid (H2.out w2 A2 c2 hb2.bytes hn2); have hq2 := HQ.on hR1.1; obtain ⟨y0, y1⟩ := hq2.pt (.head _); have HB2 := Lib.hid (HB.out.trans (hR1.1.mono HB.out.size)); clear hR1 hq2 hb2))
 go_wp2_with (go_at_call 62; go_must ((with_reducible refine H3.out.mono ?_); rintro e' w3 ⟨v3, rfl, hR3⟩; have HR3 := Lib.hid (hR3.base HB2.out); clear hR3))
 go_ret
 exact ⟨_, rfl, HR3.out⟩
set_option maxHeartbeats 2000000 in
theorem bytesOf_any (ps : List (Int × Int)) (A : Option Addr) (cap : Nat) (hn : ps.length ≤ 100000) (hg : ∀ p ∈ ps, Gd p) (w : World) (hr : Pts w w.heap.size A ps) :
  Calls Tryz.prog 63 #[.slice A ps.length cap] w fun e w' => ∃ v, e = .returned v ∧ BRow w v (ptsB ps) w' := by
 have HR := Lib.hid hr
 have HG := Lib.hid hg
 clear hr hg
 go_enter Tryz.func63, Tryz.ntmps63
 go_wp2_with fail
 go_loopg [3, 8] ps.length (fun g v i wr => ∃ k : Nat, k ≤ ps.length ∧ g = ps.length - k ∧ i = .int .i64 k ∧ BRow w v (ptsB (ps.take k)) wr)
 case atStart => exact ⟨0, Nat.zero_le _, rfl, rfl, BRow.none w⟩
 case round =>
  obtain ⟨k, hk, hgk, rfl, HV⟩ := hrel
  have HGK := Lib.hid hgk
  clear hgk
  by_cases hlt : k < ps.length
  ·obtain ⟨ad, rfl, -, d0, d1⟩ := HR.out.at HV.1 hlt
   have HT : Hid (ptsB (ps.take (k + 1)) = ptsB (ps.take k) ++ pB8 ps[k]) := by
    unfold Hid ptsB
    rw [List.take_succ_eq_append_getElem hlt, List.flatMap_append]; simp
   have hl : (ptsB (ps.take k)).length ≤ 800000 := by
    rw [ptsB_len, List.length_take]; omega
   have hgp := HG.out ps[k] (List.getElem_mem hlt)
   have b0 : (0 : Int) ≤ (k : Int) := by omega
   have b1 : (k : Int) < (ps.length : Int) := by omega
   obtain ⟨A1, c1, rfl, hb1, -, -, hn1⟩ := HV.byT
   have hb2 : Below wr.heap.size wr (wr.alloc (Obj.cells #[.int .i64 ps[k].1, .int .i64 ps[k].2] 56 (0, 0))) := (Below.refl _ wr).alloc (Nat.le_refl _) _
   have HP := Lib.hid (putPoint_any (A := A1) (c := c1) ps[k] hgp (hb1.on hb2).bytes hn1 (by omega))
   have HB := Lib.hid (HV.1.trans (hb2.mono HV.1.size))
   have hq := (Hold.refl wr).new #[.int .i64 ps[k].1, .int .i64 ps[k].2] 56
   obtain ⟨y0, y1⟩ := hq.pt (.head _)
   clear hgp hb1 hn1 hl hq HV hb2
   generalize ptsB (ps.take k) = s at *
   generalize ps[k] = p at *
   go_wp2_with (go_at_call 65; go_must ((with_reducible refine HP.out.mono ?_); rintro e' w3 ⟨v3, rfl, hR3⟩; have HR3 := Lib.hid (hR3.base HB.out); clear hR3))
   go_roundg (ps.length - (k + 1))
   case measure => have := HGK.out; omega
   case rel => exact ⟨k + 1, by omega, rfl, by go_num, by rw [HT.out]; exact HR3.out⟩
  ·obtain rfl : k = ps.length := by omega
   rw [List.take_length] at HV
   have HK := Lib.hid HV
   clear HV
   go_wp2
   go_ret
   exact ⟨_, rfl, HK.out⟩
end Go.Proofs.YtjlnjjmomohpaaaGreat
