/- A text that stands within another one: its tokens are read there as they are alone. -/
import Derived.Test.YtjhnmedcmikdpaaDoorJLies
namespace Go.Proofs.YtjhnmedcmikdpaaDoor
open Go.RowKit Go.Shelf Go.Lib

section
variable {a s post : List UInt8} {n : Nat}
theorem takeWhile_app {f : UInt8 → Bool} {l post : List UInt8} (h : ∀ c r, post = c :: r → f c = false) : (l ++ post).takeWhile f = l.takeWhile f := by
  induction l with
  | nil =>
    cases post with
    | nil => rfl
    | cons c r => simp [h c r rfl]
  | cons x l ih => simp only [List.cons_append, List.takeWhile_cons, ih]
theorem Lies.run (h : Lies a s n post) (cs : List UInt8) (hc : ∀ c r, post = c :: r → cs.contains c = false) {p : Nat} (hp : p ≤ a.length) : runL s cs (n + p) = runL a cs p := by
  unfold runL
  rw [h.at hp]
  exact takeWhile_app hc
theorem takeWhile_more {f : UInt8 → Bool} {l post : List UInt8} (h : (l.takeWhile f).length < l.length) : (l ++ post).takeWhile f = l.takeWhile f := by
  induction l with
  | nil => simp at h
  | cons x l ih =>
    simp only [List.cons_append, List.takeWhile_cons] at h ⊢
    split
    · rename_i hx
      rw [if_pos hx] at h
      simp only [List.length_cons] at h
      rw [ih (by omega)]
    · rfl
theorem takeWhile_whole {f : UInt8 → Bool} {l post : List UInt8} (h : (l.takeWhile f).length = l.length) : (l ++ post).takeWhile f = l ++ post.takeWhile f := by
  induction l with
  | nil => rfl
  | cons x l ih =>
    simp only [List.cons_append, List.takeWhile_cons] at h ⊢
    split
    · rename_i hx
      rw [if_pos hx] at h
      simp only [List.length_cons] at h
      rw [ih (by omega)]
    · rename_i hx
      rw [if_neg hx] at h
      simp at h
theorem Lies.blank1 (h : Lies a s n post) {p : Nat} (hp : p ≤ a.length) (hq : blankE a p < a.length) : blankE s (n + p) = n + blankE a p := by
  unfold blankE at hq ⊢
  have : runL s blankB (n + p) = runL a blankB p := by
    unfold runL at hq ⊢
    rw [h.at hp]
    exact takeWhile_more (by simp only [List.length_drop]; omega)
  rw [this]
  omega
theorem Lies.blank2 (h : Lies a s n post) {p : Nat} (hp : p ≤ a.length) (hq : a.length ≤ blankE a p) : blankE s (n + p) = blankE s (n + a.length) := by
  unfold blankE at hq ⊢
  have h1 : runL s blankB (n + p) = a.drop p ++ runL s blankB (n + a.length) := by
    unfold runL at hq ⊢
    rw [h.at hp, h.at (Nat.le_refl _), List.drop_length, List.nil_append]
    refine takeWhile_whole ?_
    have := (List.takeWhile_prefix (blankB.contains ·) (l := a.drop p)).length_le
    simp only [List.length_drop] at this ⊢
    omega
  rw [h1, List.length_append, List.length_drop]
  omega

theorem tok_q {s : List UInt8} {p q : Nat} (h : blankE s p = q) : tokN s p = (match s[q]? with | none => .ok ⟨0, q, noT, q⟩ | some c => match tokC s c q with | .ok k a t q => .ok ⟨k, a, t, q⟩ | .bad a => .error (a, 11)) := by
  unfold tokN tokL
  rw [h]
  cases s[q]? <;> rfl
theorem sign_not {c : UInt8} (h : signB.contains c = true) : ((c.toNat : Nat) : Int) ≠ 0 := by
  have hh : ∀ n : Nat, n < 256 → signB.contains (UInt8.ofNat n) = true → n ≠ 0 := by decide +kernel
  have := hh c.toNat c.toNat_lt (by rw [UInt8.ofNat_toNat]; exact h)
  omega
theorem Lies.stopLow (h : Lies a s n post) : ∀ c r, post = c :: r → lowB.contains c = false := fun c r e => (stop_facts (h.stop c r e)).2.2.2.2.2.2.2.2.2.2.1
theorem Lies.stopNum (h : Lies a s n post) : ∀ c r, post = c :: r → numsB.contains c = false := fun c r e => (stop_facts (h.stop c r e)).2.2.2.2.2.2.2.2.2.2.2
theorem Lies.tokOk1 (h : Lies a s n post) {q : Nat} (hq : q < a.length) {c : UInt8} {k : Int} {b : Nat} {t : ByteArray} {e : Nat} (ht : tokC a c q = .ok k b t e) : k ≠ 0 ∧ tokC s c (n + q) = .ok k (n + b) t (n + e) := by
  unfold tokC at ht ⊢
  by_cases h1 : signB.contains c = true
  · rw [if_pos h1] at ht ⊢
    cases ht
    exact ⟨sign_not h1, rfl⟩
  rw [if_neg h1] at ht ⊢
  by_cases h2 : c = 34
  · rw [if_pos h2] at ht ⊢
    cases hs : saidN a (a.length + 1) (q + 1) with
    | none => rw [hs] at ht; cases ht
    | some z =>
      rw [hs] at ht
      cases ht
      have := h.said (a.length + 1) (s.length + 1) (q + 1) z (by have := h.len; omega) (by omega) hs
      rw [show n + q + 1 = n + (q + 1) by omega, this]
      exact ⟨by decide, rfl⟩
  rw [if_neg h2] at ht ⊢
  by_cases h3 : lowB.contains c = true
  · rw [if_pos h3] at ht ⊢
    rw [h.run lowB h.stopLow (Nat.le_of_lt hq)]
    by_cases h4 : wordK (runL a lowB q) = 0
    · rw [if_pos h4] at ht; cases ht
    · rw [if_neg h4] at ht ⊢
      cases ht
      exact ⟨h4, by rw [Nat.add_assoc]⟩
  rw [if_neg h3] at ht ⊢
  by_cases h5 : numsB.contains c = true
  · rw [if_pos h5] at ht ⊢
    rw [h.run numsB h.stopNum (Nat.le_of_lt hq)]
    by_cases h6 : numB (runL a numsB q) = true
    · rw [if_pos h6] at ht ⊢
      cases ht
      exact ⟨by decide, by rw [Nat.add_assoc]⟩
    · rw [if_neg h6] at ht; cases ht
  · rw [if_neg h5] at ht; cases ht
theorem Lies.tokBad1 (h : Lies a s n post) (hb : ∀ c ∈ post, blankB.contains c = true) {q : Nat} (hq : q < a.length) {c : UInt8} {b : Nat} (ht : tokC a c q = .bad b) : ∃ b', tokC s c (n + q) = .bad b' := by
  unfold tokC at ht ⊢
  by_cases h1 : signB.contains c = true
  · rw [if_pos h1] at ht; cases ht
  rw [if_neg h1] at ht ⊢
  by_cases h2 : c = 34
  · rw [if_pos h2] at ht ⊢
    cases hs : saidN s (s.length + 1) (n + q + 1) with
    | none => exact ⟨_, rfl⟩
    | some z =>
      rw [show n + q + 1 = n + (q + 1) by omega] at hs
      obtain ⟨e, he⟩ := h.back hb _ (q + 1) z (by omega) hs
      rw [said_fuel _ (a.length + 1) (q + 1) _ (by omega) (by omega) he] at ht
      cases ht
  rw [if_neg h2] at ht ⊢
  by_cases h3 : lowB.contains c = true
  · rw [if_pos h3] at ht ⊢
    rw [h.run lowB h.stopLow (Nat.le_of_lt hq)]
    by_cases h4 : wordK (runL a lowB q) = 0
    · rw [if_pos h4]; exact ⟨_, rfl⟩
    · rw [if_neg h4] at ht; cases ht
  rw [if_neg h3] at ht ⊢
  by_cases h5 : numsB.contains c = true
  · rw [if_pos h5] at ht ⊢
    rw [h.run numsB h.stopNum (Nat.le_of_lt hq)]
    by_cases h6 : numB (runL a numsB q) = true
    · rw [if_pos h6] at ht; cases ht
    · rw [if_neg h6]; exact ⟨_, rfl⟩
  · rw [if_neg h5]; exact ⟨_, rfl⟩

/-- A token within, and the same one alone; behind the last one: what stands there (E). -/
def Sim (n : Nat) (E t t' : Tk) : Prop := (t.k ≠ 0 ∧ t' = ⟨t.k, n + t.a, t.t, n + t.q⟩) ∨ (t.k = 0 ∧ t' = E)
theorem Lies.tok (h : Lies a s n post) {E : Tk} (hE : tokN s (n + a.length) = .ok E) {p : Nat} (hp : p ≤ a.length) {t : Tk} (ht : tokN a p = .ok t) : ∃ t', tokN s (n + p) = .ok t' ∧ Sim n E t t' := by
  have hb : blankE a p ≤ a.length := runL_len a blankB hp
  rw [tok_q rfl] at ht
  rcases Nat.lt_or_ge (blankE a p) a.length with hlt | hge
  · rw [tok_q (h.blank1 hp hlt)]
    have hg : s[n + blankE a p]? = a[blankE a p]? := by
      rw [← List.getElem?_drop, h.eq, List.getElem?_append_left hlt]
    rw [hg]
    cases hc : a[blankE a p]? with
    | none => rw [List.getElem?_eq_getElem hlt] at hc; cases hc
    | some c =>
      rw [hc] at ht
      simp only at ht ⊢
      cases hk : tokC a c (blankE a p) with
      | bad b => rw [hk] at ht; cases ht
      | ok k b x e =>
        rw [hk] at ht
        cases ht
        obtain ⟨h1, h2⟩ := h.tokOk1 hlt hk
        rw [h2]
        exact ⟨_, rfl, .inl ⟨h1, rfl⟩⟩
  · rw [List.getElem?_eq_none hge] at ht
    cases ht
    have h1 : tokN s (n + p) = tokN s (n + a.length) := by
      rw [tok_q (h.blank2 hp hge), tok_q rfl]
    exact ⟨E, by rw [h1, hE], .inr ⟨rfl, rfl⟩⟩
theorem Lies.tokNo (h : Lies a s n post) (hb : ∀ c ∈ post, blankB.contains c = true) {p : Nat} (hp : p ≤ a.length) {x : Nat × Int} (ht : tokN a p = .error x) : x.2 = 11 ∧ ∃ q, tokN s (n + p) = .error (q, 11) := by
  have hbl : blankE a p ≤ a.length := runL_len a blankB hp
  rw [tok_q rfl] at ht
  rcases Nat.lt_or_ge (blankE a p) a.length with hlt | hge
  · rw [tok_q (h.blank1 hp hlt)]
    have hg : s[n + blankE a p]? = a[blankE a p]? := by
      rw [← List.getElem?_drop, h.eq, List.getElem?_append_left hlt]
    rw [hg]
    cases hc : a[blankE a p]? with
    | none => rw [List.getElem?_eq_getElem hlt] at hc; cases hc
    | some c =>
      rw [hc] at ht
      simp only at ht ⊢
      cases hk : tokC a c (blankE a p) with
      | bad b =>
        rw [hk] at ht
        cases ht
        obtain ⟨b', h2⟩ := h.tokBad1 hb hlt hk
        rw [h2]
        exact ⟨rfl, _, rfl⟩
      | ok k b x e => rw [hk] at ht; cases ht
  · rw [List.getElem?_eq_none hge] at ht
    cases ht
end
end Go.Proofs.YtjhnmedcmikdpaaDoor
