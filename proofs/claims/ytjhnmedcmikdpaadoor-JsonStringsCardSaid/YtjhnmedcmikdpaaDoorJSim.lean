/- A text that stands within another one: its values are read there as they are alone. -/
import Derived.Test.YtjhnmedcmikdpaaDoorJTokS
namespace Go.Proofs.YtjhnmedcmikdpaaDoor
open Go.RowKit Go.Shelf Go.Lib

/-- What is read alone, and within: the same, or (where B) too deep there; where not B, faults for faults. -/
def RS (n : Nat) (E : Tk) (B : Prop) {α : Type} (r r' : RR (α × Tk)) : Prop :=
  (∀ x t, r = .ok (x, t) → (∃ t', r' = .ok (x, t') ∧ Sim n E t t') ∨ (B ∧ ∃ p, r' = .error (p, 12))) ∧ (¬ B → ∀ p e, r = .error (p, e) → ∃ p', r' = .error (p', e))
/-- The text around. -/
structure Ctx (a s : List UInt8) (n : Nat) (E : Tk) (B : Prop) : Prop where
  lies : ∃ post, Lies a s n post ∧ (¬ B → ∀ c ∈ post, blankB.contains c = true)
  last : tokN s (n + a.length) = .ok E
  ends : ¬ B → E.k = 0
section
variable {a s : List UInt8} {n : Nat} {E : Tk} {B : Prop}
theorem Ctx.tok (h : Ctx a s n E B) {p : Nat} (hp : p ≤ a.length) : (∀ t, tokN a p = .ok t → ∃ t', tokN s (n + p) = .ok t' ∧ Sim n E t t') ∧ (¬ B → ∀ q e, tokN a p = .error (q, e) → ∃ q', tokN s (n + p) = .error (q', e)) := by
  obtain ⟨post, hl, hb⟩ := h.lies
  refine ⟨fun t ht => hl.tok h.last hp ht, fun hB q e ht => ?_⟩
  obtain ⟨h1, q', h2⟩ := hl.tokNo (hb hB) hp ht
  simp only at h1
  subst h1
  exact ⟨q', h2⟩
theorem Ctx.len (h : Ctx a s n E B) : n + a.length ≤ s.length := by
  obtain ⟨post, hl, _⟩ := h.lies
  have := hl.len
  omega
theorem Ctx.kind (h : Ctx a s n E B) {t t' : Tk} (hs : Sim n E t t') : (t.k ≠ 0 → t' = ⟨t.k, n + t.a, t.t, n + t.q⟩) ∧ (¬ B → t'.k = t.k) := by
  rcases hs with ⟨h1, h2⟩ | ⟨h1, h2⟩
  · exact ⟨fun _ => h2, fun _ => by rw [h2]⟩
  · exact ⟨fun h0 => absurd h1 h0, fun hB => by rw [h2, h1]; exact h.ends hB⟩

/-- A part of a list or an object, read alone and within. -/
def PS (n : Nat) (E : Tk) (B : Prop) (part part' : Tk → RR (List ByteArray × JV × Tk)) (a : List UInt8) : Prop :=
  ∀ t t', TW a t → Sim n E t t' →
    (∀ x, part t = .ok x → (∃ u, part' t' = .ok (x.1, x.2.1, u) ∧ Sim n E x.2.2 u) ∨ (B ∧ ∃ p, part' t' = .error (p, 12))) ∧ (¬ B → ∀ p e, part t = .error (p, e) → ∃ p', part' t' = .error (p', e))

theorem more_sim (h : Ctx a s n E B) {part part' : Tk → RR (List ByteArray × JV × Tk)} {last : Int} (hl : last ≠ 0) (hp : PS n E B part part' a) (hf : ∀ t, TW a t → Fwd a t (part t) (·.2.2)) :
    ∀ (m m' : Nat) (tk tk' : Tk) (ks : List ByteArray) (xs : List JV), m ≤ m' → a.length < m + tk.a → TW a tk → Sim n E tk tk' → RS n E B (moreN a part last m tk ks xs) (moreN s part' last m' tk' ks xs)
  | 0, m', tk, tk', ks, xs, hm, hg, hT, hs => by have := hT.2.1; omega
  | m + 1, 0, tk, tk', ks, xs, hm, hg, hT, hs => by omega
  | m + 1, m' + 1, tk, tk', ks, xs, hm, hg, hT, hs => by
    have hk := h.kind hs
    unfold moreN
    by_cases h1 : tk.k = last
    · have h0 : tk.k ≠ 0 := by rw [h1]; exact hl
      have e := hk.1 h0
      rw [if_pos h1, if_pos (by rw [e]; exact h1)]
      refine ⟨fun x t ht => ?_, fun hB p e ht => (by cases ht)⟩
      cases ht
      exact .inl ⟨_, rfl, hs⟩
    rw [if_neg h1]
    by_cases h2 : tk.k = 44
    · have h0 : tk.k ≠ 0 := by rw [h2]; decide
      have e := hk.1 h0
      rw [if_pos h2, if_neg (by rw [e]; exact h1), if_pos (by rw [e]; exact h2)]
      have ht := h.tok hT.2.2.1
      have hq : tk'.q = n + tk.q := by rw [e]
      rw [hq]
      have hlt : tk.a < tk.q := hT.1.resolve_left h0
      cases h3 : tokN a tk.q with
      | error x =>
        refine ⟨fun y t hy => (by cases hy), fun hB p e hy => ?_⟩
        cases hy
        obtain ⟨q', hq'⟩ := ht.2 hB _ _ h3
        rw [hq']
        exact ⟨_, rfl⟩
      | ok t1 =>
        obtain ⟨t1', h4, hs1⟩ := ht.1 t1 h3
        rw [h4]
        have hT1 := tokN_tw hT.2.2.1 h3
        have hpp := hp t1 t1' hT1.2 hs1
        simp only
        cases h5 : part t1 with
        | error x =>
          refine ⟨fun y t hy => (by cases hy), fun hB p e hy => ?_⟩
          cases hy
          obtain ⟨q', hq'⟩ := hpp.2 hB _ _ h5
          rw [hq']
          exact ⟨_, rfl⟩
        | ok x =>
          have hfx : t1.q ≤ x.2.2.a ∧ TW a x.2.2 := hf t1 hT1.2 x h5
          have hqq := hT1.2.2.2.2
          have h1q := hT1.1
          rcases hpp.1 x h5 with ⟨u, h6, hs2⟩ | ⟨hB, p, h6⟩
          · rw [h6]
            exact more_sim h hl hp hf m m' x.2.2 u (ks ++ x.1) (xs ++ [x.2.1]) (by omega) (by omega) hfx.2 hs2
          · rw [h6]
            refine ⟨fun y t hy => .inr ⟨hB, p, rfl⟩, fun hB' => absurd hB hB'⟩
    · rw [if_neg h2]
      refine ⟨fun y t hy => (by cases hy), fun hB p e hy => ?_⟩
      cases hy
      have e := hk.2 hB
      rw [if_neg (by rw [e]; exact h1), if_neg (by rw [e]; exact h2)]
      exact ⟨_, rfl⟩

theorem first_sim (h : Ctx a s n E B) {part part' : Tk → RR (List ByteArray × JV × Tk)} {last : Int} (hl : last ≠ 0) (hz : ∀ t, t.k = 0 → ∃ e, part t = .error e) (hp : PS n E B part part' a) (hf : ∀ t, TW a t → Fwd a t (part t) (·.2.2))
    {tk tk' : Tk} (hT : TW a tk) (hs : Sim n E tk tk') : RS n E B (firstN a part last tk) (firstN s part' last tk') := by
  have hk := h.kind hs
  unfold firstN
  by_cases h1 : tk.k = last
  · have h0 : tk.k ≠ 0 := by rw [h1]; exact hl
    have e := hk.1 h0
    rw [if_pos h1, if_pos (by rw [e]; exact h1)]
    refine ⟨fun x t ht => ?_, fun hB p e ht => (by cases ht)⟩
    cases ht
    exact .inl ⟨_, rfl, hs⟩
  rw [if_neg h1]
  have hpp := hp tk tk' hT hs
  by_cases h2 : tk'.k = last
  · -- what stands behind the text is taken for the last sign: alone it is a fault
    have h0 : tk.k = 0 := by
      rcases hs with ⟨a1, a2⟩ | ⟨a1, a2⟩
      · rw [a2] at h2; exact absurd h2 h1
      · exact a1
    by_cases hB : B
    · obtain ⟨e, he⟩ := hz tk h0
      rw [he]
      exact ⟨fun y t hy => (by cases hy), fun hB' => absurd hB hB'⟩
    · have := hk.2 hB
      rw [h0, h2] at this
      exact absurd this hl
  rw [if_neg h2]
  cases h5 : part tk with
  | error x =>
    refine ⟨fun y t hy => (by cases hy), fun hB p e hy => ?_⟩
    cases hy
    obtain ⟨q', hq'⟩ := hpp.2 hB _ _ h5
    rw [hq']
    exact ⟨_, rfl⟩
  | ok x =>
    have hfx : tk.q ≤ x.2.2.a ∧ TW a x.2.2 := hf tk hT x h5
    rcases hpp.1 x h5 with ⟨u, h6, hs2⟩ | ⟨hB, p, h6⟩
    · rw [h6]
      exact more_sim h hl hp hf _ _ x.2.2 u _ _ (by have := h.len; omega) (by omega) hfx.2 hs2
    · rw [h6]
      refine ⟨fun y t hy => .inr ⟨hB, p, rfl⟩, fun hB' => absurd hB hB'⟩

theorem more_last {part : Tk → RR (List ByteArray × JV × Tk)} {last : Int} (hf : ∀ t, TW a t → Fwd a t (part t) (·.2.2)) : ∀ (m : Nat) (tk : Tk) (ks : List ByteArray) (xs : List JV), TW a tk → ∀ y, moreN a part last m tk ks xs = .ok y → TW a y.2 ∧ y.2.k = last
  | 0, _, _, _, _, y, h => by cases h
  | m + 1, tk, ks, xs, hT, y, h => by
    unfold moreN at h
    split at h
    · rename_i h1
      cases h; exact ⟨hT, h1⟩
    · split at h
      · split at h
        · cases h
        · rename_i t1 h1
          have w1 := tokN_tw hT.2.2.1 h1
          split at h
          · cases h
          · rename_i z hz
            exact more_last hf m z.2.2 _ _ (hf t1 w1.2 z hz).2 y h
      · cases h
theorem first_last {part : Tk → RR (List ByteArray × JV × Tk)} {last : Int} {tk : Tk} (hT : TW a tk) (hf : ∀ t, TW a t → Fwd a t (part t) (·.2.2)) {y : (List ByteArray × List JV) × Tk} (h : firstN a part last tk = .ok y) : TW a y.2 ∧ y.2.k = last := by
  unfold firstN at h
  split at h
  · rename_i h1
    cases h; exact ⟨hT, h1⟩
  · split at h
    · cases h
    · rename_i z hz
      exact more_last hf _ z.2.2 _ _ (hf tk hT z hz).2 y h

theorem seq_sim (h : Ctx a s n E B) {part part' : Tk → RR (List ByteArray × JV × Tk)} {last : Int} (hl : last ≠ 0) (hz : ∀ t, t.k = 0 → ∃ e, part t = .error e) (hp : PS n E B part part' a) (hf : ∀ t, TW a t → Fwd a t (part t) (·.2.2))
    {tk tk' : Tk} (hT : TW a tk) (hk0 : tk.k ≠ 0) (hs : Sim n E tk tk') : RS n E B (seqN a part last tk) (seqN s part' last tk') := by
  have e := (h.kind hs).1 hk0
  have hq : tk'.q = n + tk.q := by rw [e]
  unfold seqN
  rw [hq]
  have ht := h.tok hT.2.2.1
  cases h3 : tokN a tk.q with
  | error x =>
    refine ⟨fun y t hy => (by cases hy), fun hB p e hy => ?_⟩
    cases hy
    obtain ⟨q', hq'⟩ := ht.2 hB _ _ h3
    rw [hq']
    exact ⟨_, rfl⟩
  | ok t1 =>
    obtain ⟨t1', h4, hs1⟩ := ht.1 t1 h3
    rw [h4]
    have hT1 := tokN_tw hT.2.2.1 h3
    have hff := first_sim h hl hz hp hf hT1.2 hs1
    simp only
    cases h5 : firstN a part last t1 with
    | error x =>
      refine ⟨fun y t hy => (by cases hy), fun hB p e hy => ?_⟩
      cases hy
      obtain ⟨q', hq'⟩ := hff.2 hB _ _ h5
      rw [hq']
      exact ⟨_, rfl⟩
    | ok y =>
      have hTy : TW a y.2 ∧ y.2.k = last := first_last hT1.2 hf h5
      rcases hff.1 y.1 y.2 h5 with ⟨u, h6, hs2⟩ | ⟨hB, p, h6⟩
      · rw [h6]
        have hy0 : y.2.k ≠ 0 := by rw [hTy.2]; exact hl
        have e2 := (h.kind hs2).1 hy0
        have hq2 : u.q = n + y.2.q := by rw [e2]
        simp only
        rw [hq2]
        have ht2 := h.tok hTy.1.2.2.1
        cases h7 : tokN a y.2.q with
        | error x =>
          refine ⟨fun y t hy => (by cases hy), fun hB p e hy => ?_⟩
          cases hy
          obtain ⟨q', hq'⟩ := ht2.2 hB _ _ h7
          rw [hq']
          exact ⟨_, rfl⟩
        | ok t4 =>
          obtain ⟨t4', h8, hs4⟩ := ht2.1 t4 h7
          rw [h8]
          refine ⟨fun z t hz => ?_, fun hB p e hy => (by cases hy)⟩
          cases hz
          exact .inl ⟨t4', rfl, hs4⟩
      · rw [h6]
        exact ⟨fun z t hz => .inr ⟨hB, p, rfl⟩, fun hB' => absurd hB hB'⟩

theorem val_zero {s : List UInt8} {d : Nat} {t : Tk} (h : t.k = 0) : ∃ e, valN s d t = .error e := by
  unfold valN
  rw [if_neg (by rw [h]; decide), if_neg (by rw [h]; decide), if_neg (by rw [h]; decide)]
  exact ⟨_, rfl⟩
theorem list_zero {val : Tk → RR (JV × Tk)} (hv : ∀ t, t.k = 0 → ∃ e, val t = .error e) (t : Tk) (h : t.k = 0) : ∃ e, listPart val t = .error e := by
  obtain ⟨e, he⟩ := hv t h
  unfold listPart
  rw [he]
  exact ⟨_, rfl⟩
theorem obj_zero {s : List UInt8} {val : Tk → RR (JV × Tk)} (t : Tk) (h : t.k = 0) : ∃ e, objPart s val t = .error e := by
  unfold objPart
  rw [if_neg (by rw [h]; decide)]
  exact ⟨_, rfl⟩

/-- A value, read alone and within. -/
def VS (n : Nat) (E : Tk) (B : Prop) (val val' : Tk → RR (JV × Tk)) (a : List UInt8) : Prop := ∀ t t', TW a t → Sim n E t t' → RS n E B (val t) (val' t')
theorem list_ps {val val' : Tk → RR (JV × Tk)} (hv : VS n E B val val' a) : PS n E B (listPart val) (listPart val') a := fun t t' hT hs => by
  have h := hv t t' hT hs
  unfold listPart
  cases h1 : val t with
  | error x =>
    refine ⟨fun y hy => (by cases hy), fun hB p e hy => ?_⟩
    cases hy
    obtain ⟨q, hq⟩ := h.2 hB _ _ h1
    rw [hq]; exact ⟨_, rfl⟩
  | ok x =>
    refine ⟨fun y hy => ?_, fun hB p e hy => (by cases hy)⟩
    cases hy
    rcases h.1 x.1 x.2 h1 with ⟨u, h2, hs2⟩ | ⟨hB, p, h2⟩
    · rw [h2]; exact .inl ⟨u, rfl, hs2⟩
    · rw [h2]; exact .inr ⟨hB, p, rfl⟩
theorem obj_ps (h : Ctx a s n E B) {val val' : Tk → RR (JV × Tk)} (hv : VS n E B val val' a) : PS n E B (objPart a val) (objPart s val') a := fun t t' hT hs => by
  have hk := h.kind hs
  unfold objPart
  by_cases h1 : t.k = 5
  · have h0 : t.k ≠ 0 := by rw [h1]; decide
    have e := hk.1 h0
    rw [if_pos h1, if_pos (by rw [e]; exact h1)]
    have hq : t'.q = n + t.q := by rw [e]
    have htt : t'.t = t.t := by rw [e]
    rw [hq, htt]
    have ht := h.tok hT.2.2.1
    cases h3 : tokN a t.q with
    | error x =>
      refine ⟨fun y hy => (by cases hy), fun hB p e hy => ?_⟩
      cases hy
      obtain ⟨q', hq'⟩ := ht.2 hB _ _ h3
      rw [hq']; exact ⟨_, rfl⟩
    | ok t1 =>
      obtain ⟨t1', h4, hs1⟩ := ht.1 t1 h3
      rw [h4]
      have hT1 := tokN_tw hT.2.2.1 h3
      have hk1 := h.kind hs1
      simp only
      by_cases h5 : t1.k = 58
      · have h50 : t1.k ≠ 0 := by rw [h5]; decide
        have e1 := hk1.1 h50
        rw [if_pos h5, if_pos (by rw [e1]; exact h5)]
        have hq1 : t1'.q = n + t1.q := by rw [e1]
        rw [hq1]
        have ht1 := h.tok hT1.2.2.2.1
        cases h6 : tokN a t1.q with
        | error x =>
          refine ⟨fun y hy => (by cases hy), fun hB p e hy => ?_⟩
          cases hy
          obtain ⟨q', hq'⟩ := ht1.2 hB _ _ h6
          rw [hq']; exact ⟨_, rfl⟩
        | ok t2 =>
          obtain ⟨t2', h7, hs2⟩ := ht1.1 t2 h6
          rw [h7]
          have hT2 := tokN_tw hT1.2.2.2.1 h6
          have hvv := hv t2 t2' hT2.2 hs2
          simp only
          cases h8 : val t2 with
          | error x =>
            refine ⟨fun y hy => (by cases hy), fun hB p e hy => ?_⟩
            cases hy
            obtain ⟨q, hq⟩ := hvv.2 hB _ _ h8
            rw [hq]; exact ⟨_, rfl⟩
          | ok x =>
            refine ⟨fun y hy => ?_, fun hB p e hy => (by cases hy)⟩
            cases hy
            rcases hvv.1 x.1 x.2 h8 with ⟨u, h9, hs3⟩ | ⟨hB, p, h9⟩
            · rw [h9]; exact .inl ⟨u, rfl, hs3⟩
            · rw [h9]; exact .inr ⟨hB, p, rfl⟩
      · rw [if_neg h5]
        refine ⟨fun y hy => (by cases hy), fun hB p e hy => ?_⟩
        cases hy
        have e1 := hk1.2 hB
        rw [if_neg (by rw [e1]; exact h5)]
        exact ⟨_, rfl⟩
  · rw [if_neg h1]
    refine ⟨fun y hy => (by cases hy), fun hB p e hy => ?_⟩
    cases hy
    have e1 := hk.2 hB
    rw [if_neg (by rw [e1]; exact h1)]
    exact ⟨_, rfl⟩

theorem val_sim (h : Ctx a s n E B) : ∀ (d d' : Nat), d' ≤ d → (¬ B → d' = d) → VS n E B (valN a d) (valN s d') a
  | d, d', hd, hB, t, t', hT, hs => by
    have hk := h.kind hs
    unfold valN
    by_cases h1 : t.k = 91
    · have h0 : t.k ≠ 0 := by rw [h1]; decide
      have e := hk.1 h0
      rw [if_pos h1, if_pos (by rw [e]; exact h1)]
      match d, d', hd with
      | 0, 0, _ =>
        refine ⟨fun y t hy => (by cases hy), fun hB p e hy => ?_⟩
        cases hy
        exact ⟨_, rfl⟩
      | d + 1, 0, _ =>
        by_cases hb : B
        · exact ⟨fun y t hy => .inr ⟨hb, _, rfl⟩, fun hB' => absurd hb hB'⟩
        · have := hB hb; omega
      | d + 1, d' + 1, hd =>
        have hss := seq_sim h (last := 93) (by decide) (list_zero fun t ht => val_zero ht) (list_ps (val_sim h d d' (by omega) (fun hb => by have := hB hb; omega))) (fun t ht => listPart_fwd (valN_fwd d t ht)) hT h0 hs
        simp only
        cases h5 : seqN a (listPart (valN a d)) 93 t with
        | error x =>
          refine ⟨fun y t hy => (by cases hy), fun hB p e hy => ?_⟩
          cases hy
          obtain ⟨q, hq⟩ := hss.2 hB _ _ h5
          rw [hq]; exact ⟨_, rfl⟩
        | ok y =>
          refine ⟨fun z t hz => ?_, fun hB p e hy => (by cases hy)⟩
          cases hz
          rcases hss.1 y.1 y.2 h5 with ⟨u, h6, hs2⟩ | ⟨hB, p, h6⟩
          · rw [h6]; exact .inl ⟨u, rfl, hs2⟩
          · rw [h6]; exact .inr ⟨hB, p, rfl⟩
    rw [if_neg h1]
    by_cases h2 : t.k = 123
    · have h0 : t.k ≠ 0 := by rw [h2]; decide
      have e := hk.1 h0
      rw [if_pos h2, if_neg (by rw [e]; exact h1), if_pos (by rw [e]; exact h2)]
      match d, d', hd with
      | 0, 0, _ =>
        refine ⟨fun y t hy => (by cases hy), fun hB p e hy => ?_⟩
        cases hy
        exact ⟨_, rfl⟩
      | d + 1, 0, _ =>
        by_cases hb : B
        · exact ⟨fun y t hy => .inr ⟨hb, _, rfl⟩, fun hB' => absurd hb hB'⟩
        · have := hB hb; omega
      | d + 1, d' + 1, hd =>
        have hss := seq_sim h (last := 125) (by decide) obj_zero (obj_ps h (val_sim h d d' (by omega) (fun hb => by have := hB hb; omega))) (fun t ht => objPart_fwd ht (fun u hu => valN_fwd d u hu)) hT h0 hs
        simp only
        cases h5 : seqN a (objPart a (valN a d)) 125 t with
        | error x =>
          refine ⟨fun y t hy => (by cases hy), fun hB p e hy => ?_⟩
          cases hy
          obtain ⟨q, hq⟩ := hss.2 hB _ _ h5
          rw [hq]; exact ⟨_, rfl⟩
        | ok y =>
          refine ⟨fun z t hz => ?_, fun hB p e hy => (by cases hy)⟩
          cases hz
          rcases hss.1 y.1 y.2 h5 with ⟨u, h6, hs2⟩ | ⟨hB, p, h6⟩
          · rw [h6]; exact .inl ⟨u, rfl, hs2⟩
          · rw [h6]; exact .inr ⟨hB, p, rfl⟩
    rw [if_neg h2]
    by_cases h3 : 1 ≤ t.k ∧ t.k ≤ 5
    · have h0 : t.k ≠ 0 := by omega
      have e := hk.1 h0
      have hq : t'.q = n + t.q := by rw [e]
      have htt : t'.t = t.t := by rw [e]
      have hkk : t'.k = t.k := by rw [e]
      rw [if_pos h3, if_neg (by rw [e]; exact h1), if_neg (by rw [e]; exact h2), if_pos (by rw [e]; exact h3), hq, htt, hkk]
      have ht := h.tok hT.2.2.1
      cases h5 : tokN a t.q with
      | error x =>
        refine ⟨fun y t hy => (by cases hy), fun hB p e hy => ?_⟩
        cases hy
        obtain ⟨q', hq'⟩ := ht.2 hB _ _ h5
        rw [hq']; exact ⟨_, rfl⟩
      | ok t1 =>
        obtain ⟨t1', h6, hs1⟩ := ht.1 t1 h5
        rw [h6]
        refine ⟨fun z t hz => ?_, fun hB p e hy => (by cases hy)⟩
        cases hz
        exact .inl ⟨_, rfl, hs1⟩
    · rw [if_neg h3]
      refine ⟨fun y t hy => (by cases hy), fun hB p e hy => ?_⟩
      cases hy
      have e := hk.2 hB
      rw [if_neg (by rw [e]; exact h1), if_neg (by rw [e]; exact h2), if_neg (by rw [e]; exact h3)]
      exact ⟨_, rfl⟩
end
end Go.Proofs.YtjhnmedcmikdpaaDoor
