/- A text that stands within another one: its characters and strings are read there as they are alone. -/
import Derived.Test.YtmjooghfghmngaaDoorJNumP
namespace Go.Proofs.YtmjooghfghmngaaDoor
open Go.RowKit Go.Shelf Go.Lib

def stopB : List UInt8 := [32, 9, 10, 13, 44, 93, 58, 125]
/-- s, from place n on, is a, and what is behind it begins with none that a token could go on with. -/
structure Lies (a s : List UInt8) (n : Nat) (post : List UInt8) : Prop where
  eq : s.drop n = a ++ post
  stop : ∀ c r, post = c :: r → stopB.contains c = true
  fits : n ≤ s.length

theorem stop_facts {c : UInt8} (h : stopB.contains c = true) : c.toNat < 128 ∧ hexV c.toNat = none ∧ ¬ c.toNat = 92 ∧ ¬ (c.toNat = 34 ∨ c.toNat = 92 ∨ c.toNat = 47) ∧ ¬ c.toNat = 98 ∧ ¬ c.toNat = 102 ∧ ¬ c.toNat = 110 ∧ ¬ c.toNat = 114 ∧ ¬ c.toNat = 116 ∧ ¬ c.toNat = 117 ∧ lowB.contains c = false ∧ numsB.contains c = false := by
  have h1 : ∀ n : Nat, n < 256 → stopB.contains (UInt8.ofNat n) = true → n < 128 ∧ (hexV n).isNone = true ∧ ¬ n = 92 := by decide +kernel
  have h2 : ∀ n : Nat, n < 256 → stopB.contains (UInt8.ofNat n) = true → ¬ (n = 34 ∨ n = 92 ∨ n = 47) ∧ ¬ n = 98 ∧ ¬ n = 102 := by decide +kernel
  have h3 : ∀ n : Nat, n < 256 → stopB.contains (UInt8.ofNat n) = true → ¬ n = 110 ∧ ¬ n = 114 ∧ ¬ n = 116 ∧ ¬ n = 117 := by decide +kernel
  have h4 : ∀ n : Nat, n < 256 → stopB.contains (UInt8.ofNat n) = true → lowB.contains (UInt8.ofNat n) = false ∧ numsB.contains (UInt8.ofNat n) = false := by decide +kernel
  have g1 := h1 c.toNat c.toNat_lt
  have g2 := h2 c.toNat c.toNat_lt
  have g3 := h3 c.toNat c.toNat_lt
  have g4 := h4 c.toNat c.toNat_lt
  rw [UInt8.ofNat_toNat] at g1 g2 g3 g4
  obtain ⟨a1, a2, a3⟩ := g1 h
  obtain ⟨b1, b2, b3⟩ := g2 h
  obtain ⟨c1, c2, c3, c4⟩ := g3 h
  obtain ⟨d1, d2⟩ := g4 h
  exact ⟨a1, Option.isNone_iff_eq_none.1 a2, a3, b1, b2, b3, c1, c2, c3, c4, d1, d2⟩

def runeL (l : List UInt8) : Nat × Nat := Lib.decodeGo ⟨l.toArray⟩
theorem get_of (l : List UInt8) (i : Nat) : ByteArray.get! ⟨l.toArray⟩ i = l.getD i 0 := by
  simp [ByteArray.get!, List.getD_eq_getElem?_getD]
  rfl
theorem runeL_at {l : List UInt8} (h : l ≠ []) : runeL l = Lib.decodeN l.length (l.getD 0 0).toNat (l.getD 1 0).toNat (l.getD 2 0).toNat (l.getD 3 0).toNat := by
  have hz : ¬ (⟨l.toArray⟩ : ByteArray).size = 0 := by
    simp only [ByteArray.size, List.size_toArray]
    intro h0
    exact h (List.eq_nil_of_length_eq_zero h0)
  unfold runeL Lib.decodeGo
  rw [if_neg hz, Lib.decode_at]
  simp only [get_of]
  simp [ByteArray.size]
theorem rune_app {l post : List UInt8} (h : l ≠ []) (hs : ∀ c r, post = c :: r → c.toNat < 128) : runeL (l ++ post) = runeL l := by
  have h2 : l ++ post ≠ [] := by simp [h]
  rw [runeL_at h, runeL_at h2]
  cases post with
  | nil => simp
  | cons c r =>
    have hc := hs c r rfl
    have hc2 : ¬ c.toNat / 64 = 2 := by omega
    match l, h with
    | [b0], _ => simp [Lib.decodeN, hc2]
    | [b0, b1], _ => simp [Lib.decodeN, hc2]
    | [b0, b1, b2], _ => simp [Lib.decodeN, hc2]
    | b0 :: b1 :: b2 :: b3 :: l, _ => simp [Lib.decodeN]

section
variable {a s post : List UInt8} {n : Nat}
theorem Lies.at (h : Lies a s n post) {p : Nat} (hp : p ≤ a.length) : s.drop (n + p) = a.drop p ++ post := by
  rw [← List.drop_drop, h.eq, List.drop_append_of_le_length hp]
theorem Lies.len (h : Lies a s n post) : s.length = n + a.length + post.length := by
  have h1 := congrArg List.length h.eq
  simp only [List.length_drop, List.length_append] at h1
  have := h.fits
  omega
theorem Lies.low (h : Lies a s n post) : ∀ c r, post = c :: r → c.toNat < 128 := fun c r e => (stop_facts (h.stop c r e)).1
theorem Lies.rune (h : Lies a s n post) {p : Nat} (hp : p < a.length) : runeAt s (n + p) = runeAt a p := by
  have h1 : runeAt s (n + p) = runeL (s.drop (n + p)) := rfl
  rw [h1, h.at (Nat.le_of_lt hp)]
  exact rune_app (fun e => by have := congrArg List.length e; simp at this; omega) h.low
def sh (n : Nat) {α : Type} (x : α × Nat) : α × Nat := (x.1, n + x.2)
theorem Lies.char (h : Lies a s n post) {p : Nat} (hp : p < a.length) : charN s (n + p) = (charN a p).map (sh n) := by
  unfold charN
  rw [h.rune hp]
  split
  · rfl
  · simp [sh]; omega
theorem char_over {a : List UInt8} {p : Nat} (hp : a.length ≤ p) : charN a p = none := by
  unfold charN runeAt
  rw [List.drop_eq_nil_of_le hp]
  rfl
theorem char_low {s : List UInt8} {p : Nat} {c : UInt8} {r : List UInt8} (h : s.drop p = c :: r) (hc : c.toNat < 128) : charN s p = some (c.toNat, p + 1) := by
  have h1 : runeAt s p = (c.toNat, 1) := by
    show runeL (s.drop p) = _
    rw [h, runeL_at (by simp)]
    simp [Lib.decodeN, hc]
  unfold charN
  rw [h1]
  simp
  omega
theorem Lies.charEnd (h : Lies a s n post) : charN s (n + a.length) = none ∨ ∃ c, stopB.contains c = true ∧ charN s (n + a.length) = some (c.toNat, n + a.length + 1) := by
  have h1 := h.at (Nat.le_refl a.length)
  rw [List.drop_length, List.nil_append] at h1
  cases hp : post with
  | nil =>
    left
    exact char_over (by have := h.len; rw [hp] at this; simp at this; omega)
  | cons c r =>
    right
    rw [hp] at h1
    exact ⟨c, h.stop c r hp, char_low h1 (h.low c r hp)⟩

theorem Lies.unit (h : Lies a s n post) : ∀ (m p v : Nat), p ≤ a.length → unitN s m (n + p) v = (unitN a m p v).map (sh n)
  | 0, p, v, _ => by simp [unitN, sh]
  | m + 1, p, v, hp => by
    rw [unitN, unitN]
    rcases Nat.lt_or_ge p a.length with hlt | hge
    · rw [h.char hlt]
      cases hc : charN a p with
      | none => simp
      | some x =>
        have hx := (charN_le (r := x.1) (q := x.2) hc hp).1
        simp only [Option.map_some, Option.bind_some, sh]
        cases hexV x.1 with
        | none => simp
        | some d =>
          simp only [Option.bind_some]
          exact h.unit m x.2 _ hx
    · obtain rfl : p = a.length := by omega
      rw [char_over (Nat.le_refl _)]
      rcases h.charEnd with e | ⟨c, hc, e⟩
      · rw [e]; simp
      · rw [e]
        simp [(stop_facts hc).2.1]
theorem bind_sh {α β : Type} {o : Option (α × Nat)} {f f' : α × Nat → Option (β × Nat)} (h : ∀ x, o = some x → f' (sh n x) = (f x).map (sh n)) : (o.map (sh n)).bind f' = (o.bind f).map (sh n) := by
  cases o with
  | none => rfl
  | some x => exact h x rfl
theorem Lies.charB (h : Lies a s n post) {β : Type} {p : Nat} (hp : p ≤ a.length) {f f' : Nat × Nat → Option (β × Nat)} (hf : ∀ x, x.2 ≤ a.length → f' (sh n x) = (f x).map (sh n)) (hz : ∀ c : UInt8, stopB.contains c = true → f' (c.toNat, n + a.length + 1) = none) :
    (charN s (n + p)).bind f' = ((charN a p).bind f).map (sh n) := by
  rcases Nat.lt_or_ge p a.length with hlt | hge
  · rw [h.char hlt]
    exact bind_sh fun x hx => hf x (charN_le (r := x.1) (q := x.2) hx hp).1
  · obtain rfl : p = a.length := by omega
    rw [char_over (Nat.le_refl _)]
    rcases h.charEnd with e | ⟨c, hc, e⟩
    · rw [e]; rfl
    · rw [e]
      exact hz c hc
theorem Lies.coded (h : Lies a s n post) {p : Nat} (hp : p ≤ a.length) : codedN s (n + p) = (codedN a p).map (sh n) := by
  unfold codedN
  rw [h.unit 4 p 0 hp]
  refine bind_sh fun x hx => ?_
  have hx2 := (unitN_lt (r := x.1) (q := x.2) hx).2 hp
  clear hx
  obtain ⟨x1, x2⟩ := x
  simp only [sh] at hx2 ⊢
  by_cases hv : Lib.validRune (x1 : Int) = true
  · simp only [hv, if_true, Option.map_some, sh]
  · simp only [hv]
    refine h.charB hx2 (fun y hy => ?_) (fun c hc => if_neg (stop_facts hc).2.2.1)
    obtain ⟨y1, y2⟩ := y
    simp only [sh] at hy ⊢
    by_cases h1 : y1 = 92
    · simp only [h1, if_true]
      refine h.charB hy (fun z hz => ?_) (fun c hc => if_neg (stop_facts hc).2.2.2.2.2.2.2.2.2.1)
      obtain ⟨z1, z2⟩ := z
      simp only [sh] at hz ⊢
      by_cases h2 : z1 = 117
      · simp only [h2, if_true]
        rw [h.unit 4 z2 0 hz]
        refine bind_sh fun u _ => ?_
        obtain ⟨u1, u2⟩ := u
        simp only [sh]
        generalize 65536 + (x1 - 55296) * 1024 + (u1 - 56320) = V
        by_cases h3 : (55296 ≤ x1 ∧ x1 ≤ 56319) ∧ 56320 ≤ u1 ∧ u1 ≤ 57343
        · simp only [h3, and_self, if_true, Option.map_some, sh]
        · simp only [h3, if_false, Option.map_none]
      · simp only [h2, if_false, Option.map_none]
    · simp only [h1, if_false, Option.map_none]
theorem Lies.esc (h : Lies a s n post) {p : Nat} (hp : p ≤ a.length) : escN s (n + p) = (escN a p).map (sh n) := by
  unfold escN
  rcases Nat.lt_or_ge p a.length with hlt | hge
  · rw [h.char hlt]
    cases hc : charN a p with
    | none => rfl
    | some x =>
      have hx := (charN_le (r := x.1) (q := x.2) hc hp).1
      simp only [Option.map_some, Option.bind_some, sh]
      repeat' split
      all_goals first | rfl | exact h.coded hx
  · obtain rfl : p = a.length := by omega
    rw [char_over (Nat.le_refl _)]
    rcases h.charEnd with e | ⟨c, hc, e⟩
    · rw [e]; rfl
    · rw [e]
      obtain ⟨_, _, _, f1, f2, f3, f4, f5, f6, f7, _⟩ := stop_facts hc
      simp only [Option.bind_some, f1, f2, f3, f4, f5, f6, f7, if_false]
      rfl

theorem Lies.said (h : Lies a s n post) : ∀ (m m' p : Nat) (z : List UInt8 × Nat), m ≤ m' → p ≤ a.length → saidN a m p = some z → saidN s m' (n + p) = some (sh n z)
  | 0, _, _, _, _, _, hz => by cases hz
  | m + 1, 0, _, _, hm, _, _ => by omega
  | m + 1, m' + 1, p, z, hm, hp, hz => by
    have hlt : p < a.length := by
      rcases Nat.lt_or_ge p a.length with hlt | hge
      · exact hlt
      · unfold saidN at hz
        rw [char_over hge] at hz
        cases hz
    unfold saidN at hz ⊢
    rw [h.char hlt]
    cases hc : charN a p with
    | none => rw [hc] at hz; cases hz
    | some x =>
      have hx := (charN_le (r := x.1) (q := x.2) hc hp).1
      rw [hc] at hz
      simp only [Option.map_some, Option.bind_some, sh] at hz ⊢
      split at hz
      · rename_i h1
        rw [if_pos h1]
        cases hz; rfl
      · rename_i h1
        rw [if_neg h1]
        split at hz
        · rename_i h2
          rw [if_pos h2, h.esc hx]
          cases he : escN a x.2 with
          | none => rw [he] at hz; cases hz
          | some y =>
            have hy := (escN_lt (r := y.1) (q := y.2) he).2 hx
            rw [he] at hz
            simp only [Option.map_some, Option.bind_some, Option.map_eq_some_iff, sh] at hz ⊢
            obtain ⟨u, hu, rfl⟩ := hz
            exact ⟨_, h.said m m' y.2 u (by omega) hy hu, rfl⟩
        · rename_i h2
          rw [if_neg h2]
          split at hz
          · cases hz
          · rename_i h3
            rw [if_neg h3]
            simp only [Option.map_eq_some_iff] at hz ⊢
            obtain ⟨u, hu, rfl⟩ := hz
            exact ⟨_, h.said m m' x.2 u (by omega) hx hu, rfl⟩
theorem said_fuel : ∀ (m m' p : Nat) (z : List UInt8 × Nat), p ≤ a.length → a.length < m' + p → saidN a m p = some z → saidN a m' p = some z
  | 0, _, _, _, _, _, hz => by cases hz
  | m + 1, 0, p, z, hp, hm, hz => by omega
  | m + 1, m' + 1, p, z, hp, hm, hz => by
    unfold saidN at hz ⊢
    cases hc : charN a p with
    | none => rw [hc] at hz; cases hz
    | some x =>
      have hx := (charN_le (r := x.1) (q := x.2) hc hp).1
      have hl := charN_lt (r := x.1) (q := x.2) hc
      rw [hc] at hz
      simp only [Option.bind_some] at hz ⊢
      split at hz
      · rename_i h1
        rw [if_pos h1]
        exact hz
      · rename_i h1
        rw [if_neg h1]
        split at hz
        · rename_i h2
          rw [if_pos h2]
          cases he : escN a x.2 with
          | none => rw [he] at hz; cases hz
          | some y =>
            have hy := escN_lt (r := y.1) (q := y.2) he
            rw [he] at hz
            simp only [Option.bind_some, Option.map_eq_some_iff] at hz ⊢
            obtain ⟨u, hu, rfl⟩ := hz
            exact ⟨_, said_fuel m m' y.2 u (hy.2 hx) (by omega) hu, rfl⟩
        · rename_i h2
          rw [if_neg h2]
          split at hz
          · cases hz
          · rename_i h3
            rw [if_neg h3]
            simp only [Option.map_eq_some_iff] at hz ⊢
            obtain ⟨u, hu, rfl⟩ := hz
            exact ⟨_, said_fuel m m' x.2 u hx (by omega) hu, rfl⟩
/-- Of blanks alone no string ends. -/
theorem said_blanks {s : List UInt8} : ∀ (m p : Nat), (∀ c ∈ s.drop p, blankB.contains c = true) → saidN s m p = none
  | 0, _, _ => rfl
  | m + 1, p, hb => by
    unfold saidN
    cases hd : s.drop p with
    | nil =>
      rw [char_over (by
        rcases Nat.lt_or_ge p s.length with h | h
        · rw [List.drop_eq_getElem_cons h] at hd; cases hd
        · exact h)]
      rfl
    | cons c r =>
      have hc := hb c (by rw [hd]; simp)
      have hh : ∀ n : Nat, n < 256 → blankB.contains (UInt8.ofNat n) = true → n < 128 ∧ ¬ n = 34 ∧ ¬ n = 92 := by decide +kernel
      have hf := hh c.toNat c.toNat_lt (by rw [UInt8.ofNat_toNat]; exact hc)
      rw [char_low hd hf.1]
      simp only [Option.bind_some, hf.2.1, hf.2.2, if_false]
      split
      · rfl
      · rw [said_blanks m (p + 1) (fun x hx => hb x (by
          have : s.drop (p + 1) = r := by rw [← List.drop_drop, hd]; rfl
          rw [this] at hx
          rw [hd]; simp [hx]))]
        rfl
theorem Lies.back (h : Lies a s n post) (hb : ∀ c ∈ post, blankB.contains c = true) : ∀ (m p : Nat) (z : List UInt8 × Nat), p ≤ a.length → saidN s m (n + p) = some z → ∃ q, saidN a m p = some (z.1, q)
  | 0, _, _, _, hz => by cases hz
  | m + 1, p, z, hp, hz => by
    rcases Nat.lt_or_ge p a.length with hlt | hge
    · unfold saidN at hz ⊢
      rw [h.char hlt] at hz
      cases hc : charN a p with
      | none => rw [hc] at hz; cases hz
      | some x =>
        have hx := (charN_le (r := x.1) (q := x.2) hc hp).1
        rw [hc] at hz
        simp only [Option.map_some, Option.bind_some, sh] at hz ⊢
        split at hz
        · rename_i h1
          rw [if_pos h1]
          cases hz
          exact ⟨_, rfl⟩
        · rename_i h1
          rw [if_neg h1]
          split at hz
          · rename_i h2
            rw [if_pos h2]
            rw [h.esc hx] at hz
            cases he : escN a x.2 with
            | none => rw [he] at hz; cases hz
            | some y =>
              have hy := (escN_lt (r := y.1) (q := y.2) he).2 hx
              rw [he] at hz
              simp only [Option.map_some, Option.bind_some, Option.map_eq_some_iff, sh] at hz ⊢
              obtain ⟨u, hu, rfl⟩ := hz
              obtain ⟨q, hq⟩ := h.back hb m y.2 u hy hu
              exact ⟨q, _, hq, rfl⟩
          · rename_i h2
            rw [if_neg h2]
            split at hz
            · cases hz
            · rename_i h3
              rw [if_neg h3]
              simp only [Option.map_eq_some_iff] at hz ⊢
              obtain ⟨u, hu, rfl⟩ := hz
              obtain ⟨q, hq⟩ := h.back hb m x.2 u hx hu
              exact ⟨q, _, hq, rfl⟩
    · obtain rfl : p = a.length := by omega
      have h1 := h.at (Nat.le_refl a.length)
      rw [List.drop_length, List.nil_append] at h1
      rw [said_blanks (m + 1) (n + a.length) (fun c hc => hb c (by rw [h1] at hc; exact hc))] at hz
      cases hz
end
end Go.Proofs.YtmjooghfghmngaaDoor

/- A text that stands within another one: its tokens are read there as they are alone. -/
namespace Go.Proofs.YtmjooghfghmngaaDoor
open Go.RowKit Go.Shelf Go.Lib

section
variable {a s post : List UInt8} {n : Nat}
theorem takeWhile_app {f : UInt8 → Bool} {l post : List UInt8} (h : ∀ c r, post = c :: r → f c = false) : (l ++ post).takeWhile f = l.takeWhile f := by
  induction l with
  | nil =>
    cases post with
    | nil => rfl
    | cons c r => simp [h c r rfl]
  | cons x l ih => simp only [List.cons_append, List.takeWhile_cons, ih]
theorem Lies.run (h : Lies a s n post) (cs : List UInt8) (hc : ∀ c r, post = c :: r → cs.contains c = false) {p : Nat} (hp : p ≤ a.length) : runL s cs (n + p) = runL a cs p := by
  unfold runL
  rw [h.at hp]
  exact takeWhile_app hc
theorem takeWhile_more {f : UInt8 → Bool} {l post : List UInt8} (h : (l.takeWhile f).length < l.length) : (l ++ post).takeWhile f = l.takeWhile f := by
  induction l with
  | nil => simp at h
  | cons x l ih =>
    simp only [List.cons_append, List.takeWhile_cons] at h ⊢
    split
    · rename_i hx
      rw [if_pos hx] at h
      simp only [List.length_cons] at h
      rw [ih (by omega)]
    · rfl
theorem takeWhile_whole {f : UInt8 → Bool} {l post : List UInt8} (h : (l.takeWhile f).length = l.length) : (l ++ post).takeWhile f = l ++ post.takeWhile f := by
  induction l with
  | nil => rfl
  | cons x l ih =>
    simp only [List.cons_append, List.takeWhile_cons] at h ⊢
    split
    · rename_i hx
      rw [if_pos hx] at h
      simp only [List.length_cons] at h
      rw [ih (by omega)]
    · rename_i hx
      rw [if_neg hx] at h
      simp at h
theorem Lies.blank1 (h : Lies a s n post) {p : Nat} (hp : p ≤ a.length) (hq : blankE a p < a.length) : blankE s (n + p) = n + blankE a p := by
  unfold blankE at hq ⊢
  have : runL s blankB (n + p) = runL a blankB p := by
    unfold runL at hq ⊢
    rw [h.at hp]
    exact takeWhile_more (by simp only [List.length_drop]; omega)
  rw [this]
  omega
theorem Lies.blank2 (h : Lies a s n post) {p : Nat} (hp : p ≤ a.length) (hq : a.length ≤ blankE a p) : blankE s (n + p) = blankE s (n + a.length) := by
  unfold blankE at hq ⊢
  have h1 : runL s blankB (n + p) = a.drop p ++ runL s blankB (n + a.length) := by
    unfold runL at hq ⊢
    rw [h.at hp, h.at (Nat.le_refl _), List.drop_length, List.nil_append]
    refine takeWhile_whole ?_
    have := (List.takeWhile_prefix (blankB.contains ·) (l := a.drop p)).length_le
    simp only [List.length_drop] at this ⊢
    omega
  rw [h1, List.length_append, List.length_drop]
  omega

theorem tok_q {s : List UInt8} {p q : Nat} (h : blankE s p = q) : tokN s p = (match s[q]? with | none => .ok ⟨0, q, noT, q⟩ | some c => match tokC s c q with | .ok k a t q => .ok ⟨k, a, t, q⟩ | .bad a => .error (a, 11)) := by
  unfold tokN tokL
  rw [h]
  cases s[q]? <;> rfl
theorem sign_not {c : UInt8} (h : signB.contains c = true) : ((c.toNat : Nat) : Int) ≠ 0 := by
  have hh : ∀ n : Nat, n < 256 → signB.contains (UInt8.ofNat n) = true → n ≠ 0 := by decide +kernel
  have := hh c.toNat c.toNat_lt (by rw [UInt8.ofNat_toNat]; exact h)
  omega
theorem Lies.stopLow (h : Lies a s n post) : ∀ c r, post = c :: r → lowB.contains c = false := fun c r e => (stop_facts (h.stop c r e)).2.2.2.2.2.2.2.2.2.2.1
theorem Lies.stopNum (h : Lies a s n post) : ∀ c r, post = c :: r → numsB.contains c = false := fun c r e => (stop_facts (h.stop c r e)).2.2.2.2.2.2.2.2.2.2.2
theorem Lies.tokOk1 (h : Lies a s n post) {q : Nat} (hq : q < a.length) {c : UInt8} {k : Int} {b : Nat} {t : ByteArray} {e : Nat} (ht : tokC a c q = .ok k b t e) : k ≠ 0 ∧ tokC s c (n + q) = .ok k (n + b) t (n + e) := by
  unfold tokC at ht ⊢
  by_cases h1 : signB.contains c = true
  · rw [if_pos h1] at ht ⊢
    cases ht
    exact ⟨sign_not h1, rfl⟩
  rw [if_neg h1] at ht ⊢
  by_cases h2 : c = 34
  · rw [if_pos h2] at ht ⊢
    cases hs : saidN a (a.length + 1) (q + 1) with
    | none => rw [hs] at ht; cases ht
    | some z =>
      rw [hs] at ht
      cases ht
      have := h.said (a.length + 1) (s.length + 1) (q + 1) z (by have := h.len; omega) (by omega) hs
      rw [show n + q + 1 = n + (q + 1) by omega, this]
      exact ⟨by decide, rfl⟩
  rw [if_neg h2] at ht ⊢
  by_cases h3 : lowB.contains c = true
  · rw [if_pos h3] at ht ⊢
    rw [h.run lowB h.stopLow (Nat.le_of_lt hq)]
    by_cases h4 : wordK (runL a lowB q) = 0
    · rw [if_pos h4] at ht; cases ht
    · rw [if_neg h4] at ht ⊢
      cases ht
      exact ⟨h4, by rw [Nat.add_assoc]⟩
  rw [if_neg h3] at ht ⊢
  by_cases h5 : numsB.contains c = true
  · rw [if_pos h5] at ht ⊢
    rw [h.run numsB h.stopNum (Nat.le_of_lt hq)]
    by_cases h6 : numB (runL a numsB q) = true
    · rw [if_pos h6] at ht ⊢
      cases ht
      exact ⟨by decide, by rw [Nat.add_assoc]⟩
    · rw [if_neg h6] at ht; cases ht
  · rw [if_neg h5] at ht; cases ht
theorem Lies.tokBad1 (h : Lies a s n post) (hb : ∀ c ∈ post, blankB.contains c = true) {q : Nat} (hq : q < a.length) {c : UInt8} {b : Nat} (ht : tokC a c q = .bad b) : ∃ b', tokC s c (n + q) = .bad b' := by
  unfold tokC at ht ⊢
  by_cases h1 : signB.contains c = true
  · rw [if_pos h1] at ht; cases ht
  rw [if_neg h1] at ht ⊢
  by_cases h2 : c = 34
  · rw [if_pos h2] at ht ⊢
    cases hs : saidN s (s.length + 1) (n + q + 1) with
    | none => exact ⟨_, rfl⟩
    | some z =>
      rw [show n + q + 1 = n + (q + 1) by omega] at hs
      obtain ⟨e, he⟩ := h.back hb _ (q + 1) z (by omega) hs
      rw [said_fuel _ (a.length + 1) (q + 1) _ (by omega) (by omega) he] at ht
      cases ht
  rw [if_neg h2] at ht ⊢
  by_cases h3 : lowB.contains c = true
  · rw [if_pos h3] at ht ⊢
    rw [h.run lowB h.stopLow (Nat.le_of_lt hq)]
    by_cases h4 : wordK (runL a lowB q) = 0
    · rw [if_pos h4]; exact ⟨_, rfl⟩
    · rw [if_neg h4] at ht; cases ht
  rw [if_neg h3] at ht ⊢
  by_cases h5 : numsB.contains c = true
  · rw [if_pos h5] at ht ⊢
    rw [h.run numsB h.stopNum (Nat.le_of_lt hq)]
    by_cases h6 : numB (runL a numsB q) = true
    · rw [if_pos h6] at ht; cases ht
    · rw [if_neg h6]; exact ⟨_, rfl⟩
  · rw [if_neg h5]; exact ⟨_, rfl⟩

/-- A token within, and the same one alone; behind the last one: what stands there (E). -/
def Sim (n : Nat) (E t t' : Tk) : Prop := (t.k ≠ 0 ∧ t' = ⟨t.k, n + t.a, t.t, n + t.q⟩) ∨ (t.k = 0 ∧ t' = E)
theorem Lies.tok (h : Lies a s n post) {E : Tk} (hE : tokN s (n + a.length) = .ok E) {p : Nat} (hp : p ≤ a.length) {t : Tk} (ht : tokN a p = .ok t) : ∃ t', tokN s (n + p) = .ok t' ∧ Sim n E t t' := by
  have hb : blankE a p ≤ a.length := runL_len a blankB hp
  rw [tok_q rfl] at ht
  rcases Nat.lt_or_ge (blankE a p) a.length with hlt | hge
  · rw [tok_q (h.blank1 hp hlt)]
    have hg : s[n + blankE a p]? = a[blankE a p]? := by
      rw [← List.getElem?_drop, h.eq, List.getElem?_append_left hlt]
    rw [hg]
    cases hc : a[blankE a p]? with
    | none => rw [List.getElem?_eq_getElem hlt] at hc; cases hc
    | some c =>
      rw [hc] at ht
      simp only at ht ⊢
      cases hk : tokC a c (blankE a p) with
      | bad b => rw [hk] at ht; cases ht
      | ok k b x e =>
        rw [hk] at ht
        cases ht
        obtain ⟨h1, h2⟩ := h.tokOk1 hlt hk
        rw [h2]
        exact ⟨_, rfl, .inl ⟨h1, rfl⟩⟩
  · rw [List.getElem?_eq_none hge] at ht
    cases ht
    have h1 : tokN s (n + p) = tokN s (n + a.length) := by
      rw [tok_q (h.blank2 hp hge), tok_q rfl]
    exact ⟨E, by rw [h1, hE], .inr ⟨rfl, rfl⟩⟩
theorem Lies.tokNo (h : Lies a s n post) (hb : ∀ c ∈ post, blankB.contains c = true) {p : Nat} (hp : p ≤ a.length) {x : Nat × Int} (ht : tokN a p = .error x) : x.2 = 11 ∧ ∃ q, tokN s (n + p) = .error (q, 11) := by
  have hbl : blankE a p ≤ a.length := runL_len a blankB hp
  rw [tok_q rfl] at ht
  rcases Nat.lt_or_ge (blankE a p) a.length with hlt | hge
  · rw [tok_q (h.blank1 hp hlt)]
    have hg : s[n + blankE a p]? = a[blankE a p]? := by
      rw [← List.getElem?_drop, h.eq, List.getElem?_append_left hlt]
    rw [hg]
    cases hc : a[blankE a p]? with
    | none => rw [List.getElem?_eq_getElem hlt] at hc; cases hc
    | some c =>
      rw [hc] at ht
      simp only at ht ⊢
      cases hk : tokC a c (blankE a p) with
      | bad b =>
        rw [hk] at ht
        cases ht
        obtain ⟨b', h2⟩ := h.tokBad1 hb hlt hk
        rw [h2]
        exact ⟨rfl, _, rfl⟩
      | ok k b x e => rw [hk] at ht; cases ht
  · rw [List.getElem?_eq_none hge] at ht
    cases ht
end
end Go.Proofs.YtmjooghfghmngaaDoor

/- A text that stands within another one: its values are read there as they are alone. -/
namespace Go.Proofs.YtmjooghfghmngaaDoor
open Go.RowKit Go.Shelf Go.Lib

/-- What is read alone, and within: the same, or (where B) too deep there; where not B, faults for faults. -/
def RS (n : Nat) (E : Tk) (B : Prop) {α : Type} (r r' : RR (α × Tk)) : Prop :=
  (∀ x t, r = .ok (x, t) → (∃ t', r' = .ok (x, t') ∧ Sim n E t t') ∨ (B ∧ ∃ p, r' = .error (p, 12))) ∧ (¬ B → ∀ p e, r = .error (p, e) → ∃ p', r' = .error (p', e))
/-- The text around. -/
structure Ctx (a s : List UInt8) (n : Nat) (E : Tk) (B : Prop) : Prop where
  lies : ∃ post, Lies a s n post ∧ (¬ B → ∀ c ∈ post, blankB.contains c = true)
  last : tokN s (n + a.length) = .ok E
  ends : ¬ B → E.k = 0
section
variable {a s : List UInt8} {n : Nat} {E : Tk} {B : Prop}
theorem Ctx.tok (h : Ctx a s n E B) {p : Nat} (hp : p ≤ a.length) : (∀ t, tokN a p = .ok t → ∃ t', tokN s (n + p) = .ok t' ∧ Sim n E t t') ∧ (¬ B → ∀ q e, tokN a p = .error (q, e) → ∃ q', tokN s (n + p) = .error (q', e)) := by
  obtain ⟨post, hl, hb⟩ := h.lies
  refine ⟨fun t ht => hl.tok h.last hp ht, fun hB q e ht => ?_⟩
  obtain ⟨h1, q', h2⟩ := hl.tokNo (hb hB) hp ht
  simp only at h1
  subst h1
  exact ⟨q', h2⟩
theorem Ctx.len (h : Ctx a s n E B) : n + a.length ≤ s.length := by
  obtain ⟨post, hl, _⟩ := h.lies
  have := hl.len
  omega
theorem Ctx.kind (h : Ctx a s n E B) {t t' : Tk} (hs : Sim n E t t') : (t.k ≠ 0 → t' = ⟨t.k, n + t.a, t.t, n + t.q⟩) ∧ (¬ B → t'.k = t.k) := by
  rcases hs with ⟨h1, h2⟩ | ⟨h1, h2⟩
  · exact ⟨fun _ => h2, fun _ => by rw [h2]⟩
  · exact ⟨fun h0 => absurd h1 h0, fun hB => by rw [h2, h1]; exact h.ends hB⟩

/-- A part of a list or an object, read alone and within. -/
def PS (n : Nat) (E : Tk) (B : Prop) (part part' : Tk → RR (List ByteArray × JV × Tk)) (a : List UInt8) : Prop :=
  ∀ t t', TW a t → Sim n E t t' →
    (∀ x, part t = .ok x → (∃ u, part' t' = .ok (x.1, x.2.1, u) ∧ Sim n E x.2.2 u) ∨ (B ∧ ∃ p, part' t' = .error (p, 12))) ∧ (¬ B → ∀ p e, part t = .error (p, e) → ∃ p', part' t' = .error (p', e))

theorem more_sim (h : Ctx a s n E B) {part part' : Tk → RR (List ByteArray × JV × Tk)} {last : Int} (hl : last ≠ 0) (hp : PS n E B part part' a) (hf : ∀ t, TW a t → Fwd a t (part t) (·.2.2)) :
    ∀ (m m' : Nat) (tk tk' : Tk) (ks : List ByteArray) (xs : List JV), m ≤ m' → a.length < m + tk.a → TW a tk → Sim n E tk tk' → RS n E B (moreN a part last m tk ks xs) (moreN s part' last m' tk' ks xs)
  | 0, m', tk, tk', ks, xs, hm, hg, hT, hs => by have := hT.2.1; omega
  | m + 1, 0, tk, tk', ks, xs, hm, hg, hT, hs => by omega
  | m + 1, m' + 1, tk, tk', ks, xs, hm, hg, hT, hs => by
    have hk := h.kind hs
    unfold moreN
    by_cases h1 : tk.k = last
    · have h0 : tk.k ≠ 0 := by rw [h1]; exact hl
      have e := hk.1 h0
      rw [if_pos h1, if_pos (by rw [e]; exact h1)]
      refine ⟨fun x t ht => ?_, fun hB p e ht => (by cases ht)⟩
      cases ht
      exact .inl ⟨_, rfl, hs⟩
    rw [if_neg h1]
    by_cases h2 : tk.k = 44
    · have h0 : tk.k ≠ 0 := by rw [h2]; decide
      have e := hk.1 h0
      rw [if_pos h2, if_neg (by rw [e]; exact h1), if_pos (by rw [e]; exact h2)]
      have ht := h.tok hT.2.2.1
      have hq : tk'.q = n + tk.q := by rw [e]
      rw [hq]
      have hlt : tk.a < tk.q := hT.1.resolve_left h0
      cases h3 : tokN a tk.q with
      | error x =>
        refine ⟨fun y t hy => (by cases hy), fun hB p e hy => ?_⟩
        cases hy
        obtain ⟨q', hq'⟩ := ht.2 hB _ _ h3
        rw [hq']
        exact ⟨_, rfl⟩
      | ok t1 =>
        obtain ⟨t1', h4, hs1⟩ := ht.1 t1 h3
        rw [h4]
        have hT1 := tokN_tw hT.2.2.1 h3
        have hpp := hp t1 t1' hT1.2 hs1
        simp only
        cases h5 : part t1 with
        | error x =>
          refine ⟨fun y t hy => (by cases hy), fun hB p e hy => ?_⟩
          cases hy
          obtain ⟨q', hq'⟩ := hpp.2 hB _ _ h5
          rw [hq']
          exact ⟨_, rfl⟩
        | ok x =>
          have hfx : t1.q ≤ x.2.2.a ∧ TW a x.2.2 := hf t1 hT1.2 x h5
          have hqq := hT1.2.2.2.2
          have h1q := hT1.1
          rcases hpp.1 x h5 with ⟨u, h6, hs2⟩ | ⟨hB, p, h6⟩
          · rw [h6]
            exact more_sim h hl hp hf m m' x.2.2 u (ks ++ x.1) (xs ++ [x.2.1]) (by omega) (by omega) hfx.2 hs2
          · rw [h6]
            refine ⟨fun y t hy => .inr ⟨hB, p, rfl⟩, fun hB' => absurd hB hB'⟩
    · rw [if_neg h2]
      refine ⟨fun y t hy => (by cases hy), fun hB p e hy => ?_⟩
      cases hy
      have e := hk.2 hB
      rw [if_neg (by rw [e]; exact h1), if_neg (by rw [e]; exact h2)]
      exact ⟨_, rfl⟩

theorem first_sim (h : Ctx a s n E B) {part part' : Tk → RR (List ByteArray × JV × Tk)} {last : Int} (hl : last ≠ 0) (hz : ∀ t, t.k = 0 → ∃ e, part t = .error e) (hp : PS n E B part part' a) (hf : ∀ t, TW a t → Fwd a t (part t) (·.2.2))
    {tk tk' : Tk} (hT : TW a tk) (hs : Sim n E tk tk') : RS n E B (firstN a part last tk) (firstN s part' last tk') := by
  have hk := h.kind hs
  unfold firstN
  by_cases h1 : tk.k = last
  · have h0 : tk.k ≠ 0 := by rw [h1]; exact hl
    have e := hk.1 h0
    rw [if_pos h1, if_pos (by rw [e]; exact h1)]
    refine ⟨fun x t ht => ?_, fun hB p e ht => (by cases ht)⟩
    cases ht
    exact .inl ⟨_, rfl, hs⟩
  rw [if_neg h1]
  have hpp := hp tk tk' hT hs
  by_cases h2 : tk'.k = last
  · -- what stands behind the text is taken for the last sign: alone it is a fault
    have h0 : tk.k = 0 := by
      rcases hs with ⟨a1, a2⟩ | ⟨a1, a2⟩
      · rw [a2] at h2; exact absurd h2 h1
      · exact a1
    by_cases hB : B
    · obtain ⟨e, he⟩ := hz tk h0
      rw [he]
      exact ⟨fun y t hy => (by cases hy), fun hB' => absurd hB hB'⟩
    · have := hk.2 hB
      rw [h0, h2] at this
      exact absurd this hl
  rw [if_neg h2]
  cases h5 : part tk with
  | error x =>
    refine ⟨fun y t hy => (by cases hy), fun hB p e hy => ?_⟩
    cases hy
    obtain ⟨q', hq'⟩ := hpp.2 hB _ _ h5
    rw [hq']
    exact ⟨_, rfl⟩
  | ok x =>
    have hfx : tk.q ≤ x.2.2.a ∧ TW a x.2.2 := hf tk hT x h5
    rcases hpp.1 x h5 with ⟨u, h6, hs2⟩ | ⟨hB, p, h6⟩
    · rw [h6]
      exact more_sim h hl hp hf _ _ x.2.2 u _ _ (by have := h.len; omega) (by omega) hfx.2 hs2
    · rw [h6]
      refine ⟨fun y t hy => .inr ⟨hB, p, rfl⟩, fun hB' => absurd hB hB'⟩

theorem more_last {part : Tk → RR (List ByteArray × JV × Tk)} {last : Int} (hf : ∀ t, TW a t → Fwd a t (part t) (·.2.2)) : ∀ (m : Nat) (tk : Tk) (ks : List ByteArray) (xs : List JV), TW a tk → ∀ y, moreN a part last m tk ks xs = .ok y → TW a y.2 ∧ y.2.k = last
  | 0, _, _, _, _, y, h => by cases h
  | m + 1, tk, ks, xs, hT, y, h => by
    unfold moreN at h
    split at h
    · rename_i h1
      cases h; exact ⟨hT, h1⟩
    · split at h
      · split at h
        · cases h
        · rename_i t1 h1
          have w1 := tokN_tw hT.2.2.1 h1
          split at h
          · cases h
          · rename_i z hz
            exact more_last hf m z.2.2 _ _ (hf t1 w1.2 z hz).2 y h
      · cases h
theorem first_last {part : Tk → RR (List ByteArray × JV × Tk)} {last : Int} {tk : Tk} (hT : TW a tk) (hf : ∀ t, TW a t → Fwd a t (part t) (·.2.2)) {y : (List ByteArray × List JV) × Tk} (h : firstN a part last tk = .ok y) : TW a y.2 ∧ y.2.k = last := by
  unfold firstN at h
  split at h
  · rename_i h1
    cases h; exact ⟨hT, h1⟩
  · split at h
    · cases h
    · rename_i z hz
      exact more_last hf _ z.2.2 _ _ (hf tk hT z hz).2 y h

theorem seq_sim (h : Ctx a s n E B) {part part' : Tk → RR (List ByteArray × JV × Tk)} {last : Int} (hl : last ≠ 0) (hz : ∀ t, t.k = 0 → ∃ e, part t = .error e) (hp : PS n E B part part' a) (hf : ∀ t, TW a t → Fwd a t (part t) (·.2.2))
    {tk tk' : Tk} (hT : TW a tk) (hk0 : tk.k ≠ 0) (hs : Sim n E tk tk') : RS n E B (seqN a part last tk) (seqN s part' last tk') := by
  have e := (h.kind hs).1 hk0
  have hq : tk'.q = n + tk.q := by rw [e]
  unfold seqN
  rw [hq]
  have ht := h.tok hT.2.2.1
  cases h3 : tokN a tk.q with
  | error x =>
    refine ⟨fun y t hy => (by cases hy), fun hB p e hy => ?_⟩
    cases hy
    obtain ⟨q', hq'⟩ := ht.2 hB _ _ h3
    rw [hq']
    exact ⟨_, rfl⟩
  | ok t1 =>
    obtain ⟨t1', h4, hs1⟩ := ht.1 t1 h3
    rw [h4]
    have hT1 := tokN_tw hT.2.2.1 h3
    have hff := first_sim h hl hz hp hf hT1.2 hs1
    simp only
    cases h5 : firstN a part last t1 with
    | error x =>
      refine ⟨fun y t hy => (by cases hy), fun hB p e hy => ?_⟩
      cases hy
      obtain ⟨q', hq'⟩ := hff.2 hB _ _ h5
      rw [hq']
      exact ⟨_, rfl⟩
    | ok y =>
      have hTy : TW a y.2 ∧ y.2.k = last := first_last hT1.2 hf h5
      rcases hff.1 y.1 y.2 h5 with ⟨u, h6, hs2⟩ | ⟨hB, p, h6⟩
      · rw [h6]
        have hy0 : y.2.k ≠ 0 := by rw [hTy.2]; exact hl
        have e2 := (h.kind hs2).1 hy0
        have hq2 : u.q = n + y.2.q := by rw [e2]
        simp only
        rw [hq2]
        have ht2 := h.tok hTy.1.2.2.1
        cases h7 : tokN a y.2.q with
        | error x =>
          refine ⟨fun y t hy => (by cases hy), fun hB p e hy => ?_⟩
          cases hy
          obtain ⟨q', hq'⟩ := ht2.2 hB _ _ h7
          rw [hq']
          exact ⟨_, rfl⟩
        | ok t4 =>
          obtain ⟨t4', h8, hs4⟩ := ht2.1 t4 h7
          rw [h8]
          refine ⟨fun z t hz => ?_, fun hB p e hy => (by cases hy)⟩
          cases hz
          exact .inl ⟨t4', rfl, hs4⟩
      · rw [h6]
        exact ⟨fun z t hz => .inr ⟨hB, p, rfl⟩, fun hB' => absurd hB hB'⟩

theorem val_zero {s : List UInt8} {d : Nat} {t : Tk} (h : t.k = 0) : ∃ e, valN s d t = .error e := by
  unfold valN
  rw [if_neg (by rw [h]; decide), if_neg (by rw [h]; decide), if_neg (by rw [h]; decide)]
  exact ⟨_, rfl⟩
theorem list_zero {val : Tk → RR (JV × Tk)} (hv : ∀ t, t.k = 0 → ∃ e, val t = .error e) (t : Tk) (h : t.k = 0) : ∃ e, listPart val t = .error e := by
  obtain ⟨e, he⟩ := hv t h
  unfold listPart
  rw [he]
  exact ⟨_, rfl⟩
theorem obj_zero {s : List UInt8} {val : Tk → RR (JV × Tk)} (t : Tk) (h : t.k = 0) : ∃ e, objPart s val t = .error e := by
  unfold objPart
  rw [if_neg (by rw [h]; decide)]
  exact ⟨_, rfl⟩

/-- A value, read alone and within. -/
def VS (n : Nat) (E : Tk) (B : Prop) (val val' : Tk → RR (JV × Tk)) (a : List UInt8) : Prop := ∀ t t', TW a t → Sim n E t t' → RS n E B (val t) (val' t')
theorem list_ps {val val' : Tk → RR (JV × Tk)} (hv : VS n E B val val' a) : PS n E B (listPart val) (listPart val') a := fun t t' hT hs => by
  have h := hv t t' hT hs
  unfold listPart
  cases h1 : val t with
  | error x =>
    refine ⟨fun y hy => (by cases hy), fun hB p e hy => ?_⟩
    cases hy
    obtain ⟨q, hq⟩ := h.2 hB _ _ h1
    rw [hq]; exact ⟨_, rfl⟩
  | ok x =>
    refine ⟨fun y hy => ?_, fun hB p e hy => (by cases hy)⟩
    cases hy
    rcases h.1 x.1 x.2 h1 with ⟨u, h2, hs2⟩ | ⟨hB, p, h2⟩
    · rw [h2]; exact .inl ⟨u, rfl, hs2⟩
    · rw [h2]; exact .inr ⟨hB, p, rfl⟩
theorem obj_ps (h : Ctx a s n E B) {val val' : Tk → RR (JV × Tk)} (hv : VS n E B val val' a) : PS n E B (objPart a val) (objPart s val') a := fun t t' hT hs => by
  have hk := h.kind hs
  unfold objPart
  by_cases h1 : t.k = 5
  · have h0 : t.k ≠ 0 := by rw [h1]; decide
    have e := hk.1 h0
    rw [if_pos h1, if_pos (by rw [e]; exact h1)]
    have hq : t'.q = n + t.q := by rw [e]
    have htt : t'.t = t.t := by rw [e]
    rw [hq, htt]
    have ht := h.tok hT.2.2.1
    cases h3 : tokN a t.q with
    | error x =>
      refine ⟨fun y hy => (by cases hy), fun hB p e hy => ?_⟩
      cases hy
      obtain ⟨q', hq'⟩ := ht.2 hB _ _ h3
      rw [hq']; exact ⟨_, rfl⟩
    | ok t1 =>
      obtain ⟨t1', h4, hs1⟩ := ht.1 t1 h3
      rw [h4]
      have hT1 := tokN_tw hT.2.2.1 h3
      have hk1 := h.kind hs1
      simp only
      by_cases h5 : t1.k = 58
      · have h50 : t1.k ≠ 0 := by rw [h5]; decide
        have e1 := hk1.1 h50
        rw [if_pos h5, if_pos (by rw [e1]; exact h5)]
        have hq1 : t1'.q = n + t1.q := by rw [e1]
        rw [hq1]
        have ht1 := h.tok hT1.2.2.2.1
        cases h6 : tokN a t1.q with
        | error x =>
          refine ⟨fun y hy => (by cases hy), fun hB p e hy => ?_⟩
          cases hy
          obtain ⟨q', hq'⟩ := ht1.2 hB _ _ h6
          rw [hq']; exact ⟨_, rfl⟩
        | ok t2 =>
          obtain ⟨t2', h7, hs2⟩ := ht1.1 t2 h6
          rw [h7]
          have hT2 := tokN_tw hT1.2.2.2.1 h6
          have hvv := hv t2 t2' hT2.2 hs2
          simp only
          cases h8 : val t2 with
          | error x =>
            refine ⟨fun y hy => (by cases hy), fun hB p e hy => ?_⟩
            cases hy
            obtain ⟨q, hq⟩ := hvv.2 hB _ _ h8
            rw [hq]; exact ⟨_, rfl⟩
          | ok x =>
            refine ⟨fun y hy => ?_, fun hB p e hy => (by cases hy)⟩
            cases hy
            rcases hvv.1 x.1 x.2 h8 with ⟨u, h9, hs3⟩ | ⟨hB, p, h9⟩
            · rw [h9]; exact .inl ⟨u, rfl, hs3⟩
            · rw [h9]; exact .inr ⟨hB, p, rfl⟩
      · rw [if_neg h5]
        refine ⟨fun y hy => (by cases hy), fun hB p e hy => ?_⟩
        cases hy
        have e1 := hk1.2 hB
        rw [if_neg (by rw [e1]; exact h5)]
        exact ⟨_, rfl⟩
  · rw [if_neg h1]
    refine ⟨fun y hy => (by cases hy), fun hB p e hy => ?_⟩
    cases hy
    have e1 := hk.2 hB
    rw [if_neg (by rw [e1]; exact h1)]
    exact ⟨_, rfl⟩

theorem val_sim (h : Ctx a s n E B) : ∀ (d d' : Nat), d' ≤ d → (¬ B → d' = d) → VS n E B (valN a d) (valN s d') a
  | d, d', hd, hB, t, t', hT, hs => by
    have hk := h.kind hs
    unfold valN
    by_cases h1 : t.k = 91
    · have h0 : t.k ≠ 0 := by rw [h1]; decide
      have e := hk.1 h0
      rw [if_pos h1, if_pos (by rw [e]; exact h1)]
      match d, d', hd with
      | 0, 0, _ =>
        refine ⟨fun y t hy => (by cases hy), fun hB p e hy => ?_⟩
        cases hy
        exact ⟨_, rfl⟩
      | d + 1, 0, _ =>
        by_cases hb : B
        · exact ⟨fun y t hy => .inr ⟨hb, _, rfl⟩, fun hB' => absurd hb hB'⟩
        · have := hB hb; omega
      | d + 1, d' + 1, hd =>
        have hss := seq_sim h (last := 93) (by decide) (list_zero fun t ht => val_zero ht) (list_ps (val_sim h d d' (by omega) (fun hb => by have := hB hb; omega))) (fun t ht => listPart_fwd (valN_fwd d t ht)) hT h0 hs
        simp only
        cases h5 : seqN a (listPart (valN a d)) 93 t with
        | error x =>
          refine ⟨fun y t hy => (by cases hy), fun hB p e hy => ?_⟩
          cases hy
          obtain ⟨q, hq⟩ := hss.2 hB _ _ h5
          rw [hq]; exact ⟨_, rfl⟩
        | ok y =>
          refine ⟨fun z t hz => ?_, fun hB p e hy => (by cases hy)⟩
          cases hz
          rcases hss.1 y.1 y.2 h5 with ⟨u, h6, hs2⟩ | ⟨hB, p, h6⟩
          · rw [h6]; exact .inl ⟨u, rfl, hs2⟩
          · rw [h6]; exact .inr ⟨hB, p, rfl⟩
    rw [if_neg h1]
    by_cases h2 : t.k = 123
    · have h0 : t.k ≠ 0 := by rw [h2]; decide
      have e := hk.1 h0
      rw [if_pos h2, if_neg (by rw [e]; exact h1), if_pos (by rw [e]; exact h2)]
      match d, d', hd with
      | 0, 0, _ =>
        refine ⟨fun y t hy => (by cases hy), fun hB p e hy => ?_⟩
        cases hy
        exact ⟨_, rfl⟩
      | d + 1, 0, _ =>
        by_cases hb : B
        · exact ⟨fun y t hy => .inr ⟨hb, _, rfl⟩, fun hB' => absurd hb hB'⟩
        · have := hB hb; omega
      | d + 1, d' + 1, hd =>
        have hss := seq_sim h (last := 125) (by decide) obj_zero (obj_ps h (val_sim h d d' (by omega) (fun hb => by have := hB hb; omega))) (fun t ht => objPart_fwd ht (fun u hu => valN_fwd d u hu)) hT h0 hs
        simp only
        cases h5 : seqN a (objPart a (valN a d)) 125 t with
        | error x =>
          refine ⟨fun y t hy => (by cases hy), fun hB p e hy => ?_⟩
          cases hy
          obtain ⟨q, hq⟩ := hss.2 hB _ _ h5
          rw [hq]; exact ⟨_, rfl⟩
        | ok y =>
          refine ⟨fun z t hz => ?_, fun hB p e hy => (by cases hy)⟩
          cases hz
          rcases hss.1 y.1 y.2 h5 with ⟨u, h6, hs2⟩ | ⟨hB, p, h6⟩
          · rw [h6]; exact .inl ⟨u, rfl, hs2⟩
          · rw [h6]; exact .inr ⟨hB, p, rfl⟩
    rw [if_neg h2]
    by_cases h3 : 1 ≤ t.k ∧ t.k ≤ 5
    · have h0 : t.k ≠ 0 := by omega
      have e := hk.1 h0
      have hq : t'.q = n + t.q := by rw [e]
      have htt : t'.t = t.t := by rw [e]
      have hkk : t'.k = t.k := by rw [e]
      rw [if_pos h3, if_neg (by rw [e]; exact h1), if_neg (by rw [e]; exact h2), if_pos (by rw [e]; exact h3), hq, htt, hkk]
      have ht := h.tok hT.2.2.1
      cases h5 : tokN a t.q with
      | error x =>
        refine ⟨fun y t hy => (by cases hy), fun hB p e hy => ?_⟩
        cases hy
        obtain ⟨q', hq'⟩ := ht.2 hB _ _ h5
        rw [hq']; exact ⟨_, rfl⟩
      | ok t1 =>
        obtain ⟨t1', h6, hs1⟩ := ht.1 t1 h5
        rw [h6]
        refine ⟨fun z t hz => ?_, fun hB p e hy => (by cases hy)⟩
        cases hz
        exact .inl ⟨_, rfl, hs1⟩
    · rw [if_neg h3]
      refine ⟨fun y t hy => (by cases hy), fun hB p e hy => ?_⟩
      cases hy
      have e := hk.2 hB
      rw [if_neg (by rw [e]; exact h1), if_neg (by rw [e]; exact h2), if_neg (by rw [e]; exact h3)]
      exact ⟨_, rfl⟩
end
end Go.Proofs.YtmjooghfghmngaaDoor

/- Blanks around a text, and a list of two texts with blanks around them. -/
namespace Go.Proofs.YtmjooghfghmngaaDoor
open Go.RowKit Go.Shelf Go.Lib

theorem tok_skip {s v r : List UInt8} {p : Nat} (hv : ∀ c ∈ v, blankB.contains c = true) (h : s.drop p = v ++ r) : tokN s p = tokN s (p + v.length) := by
  have h2 : s.drop (p + v.length) = r := by rw [← List.drop_drop, h, List.drop_left]
  have e : blankE s p = blankE s (p + v.length) := by
    unfold blankE runL
    rw [h, h2, takeWhile_whole (by rw [takeAll hv]), List.length_append]
    omega
  rw [tok_q e, tok_q rfl]
theorem tok_sign {s : List UInt8} {p : Nat} {c : UInt8} (h : s[p]? = some c) (hc : signB.contains c = true) : tokN s p = .ok ⟨((c.toNat : Nat) : Int), p, noT, p + 1⟩ := by
  have hb : blankB.contains c = false := by
    have hh : ∀ n : Nat, n < 256 → signB.contains (UInt8.ofNat n) = true → blankB.contains (UInt8.ofNat n) = false := by decide +kernel
    have := hh c.toNat c.toNat_lt
    rw [UInt8.ofNat_toNat] at this
    exact this hc
  unfold tokN
  rw [tok_at h hb, tokC, if_pos hc]
theorem blank_stop {c : UInt8} (h : blankB.contains c = true) : stopB.contains c = true := by
  have hh : ∀ n : Nat, n < 256 → blankB.contains (UInt8.ofNat n) = true → stopB.contains (UInt8.ofNat n) = true := by decide +kernel
  have := hh c.toNat c.toNat_lt
  rw [UInt8.ofNat_toNat] at this
  exact this h
theorem start_tw {a : List UInt8} {t : Tk} (h : tokN a 0 = .ok t) : TW a t := (tokN_tw (Nat.zero_le _) h).2

theorem blanks_one {a u : List UInt8} (hu : ∀ c ∈ u, blankB.contains c = true) (ha : a.length ≤ 262144) (hs : (u ++ a ++ u).length ≤ 262144) :
    (∀ x, parseN a = .ok x → parseN (u ++ a ++ u) = .ok x) ∧ (∀ p e, parseN a = .error (p, e) → ∃ p', parseN (u ++ a ++ u) = .error (p', e)) := by
  obtain ⟨s, hsd⟩ : ∃ s, s = u ++ a ++ u := ⟨_, rfl⟩
  rw [← hsd] at hs ⊢
  have hd0 : s.drop u.length = a ++ u := by rw [hsd, List.append_assoc, List.drop_left]
  have hl : Lies a s u.length u := ⟨hd0, fun c r e => blank_stop (hu c (by rw [e]; simp)), by rw [hsd]; simp⟩
  have hlen := hl.len
  have hE : tokN s (u.length + a.length) = .ok ⟨0, s.length, noT, s.length⟩ := by
    rw [tok_skip (v := u) (r := []) hu (by rw [hl.at (Nat.le_refl _), List.drop_length]; simp), tok_end s _ (by omega)]
    rw [← hlen]
  have hc : Ctx a s u.length ⟨0, s.length, noT, s.length⟩ False := ⟨⟨u, hl, fun _ => hu⟩, hE, fun _ => rfl⟩
  have h0 : tokN s 0 = tokN s (u.length + 0) := by
    rw [tok_skip (v := u) (r := a ++ u) hu (by rw [hsd, List.drop_zero, List.append_assoc])]
    simp
  have ht := hc.tok (Nat.zero_le a.length)
  have hpa : parseN a = match tokN a 0 with | .error e => .error e | .ok t1 => match valN a 32 t1 with | .error e => .error e | .ok y => if y.2.k = 0 then .ok y.1 else .error (y.2.a, 11) := by
    unfold parseN; rw [if_neg (by omega)]; cases tokN a 0 <;> rfl
  have hps : parseN s = match tokN s 0 with | .error e => .error e | .ok t1 => match valN s 32 t1 with | .error e => .error e | .ok y => if y.2.k = 0 then .ok y.1 else .error (y.2.a, 11) := by
    unfold parseN; rw [if_neg (by omega)]; cases tokN s 0 <;> rfl
  rw [hpa, hps, h0]
  cases h1 : tokN a 0 with
  | error x =>
    refine ⟨fun x hx => (by cases hx), fun p e hx => ?_⟩
    cases hx
    obtain ⟨q, hq⟩ := ht.2 (fun h => h) _ _ h1
    rw [hq]; exact ⟨_, rfl⟩
  | ok t =>
    obtain ⟨t', h2, hs2⟩ := ht.1 t h1
    rw [h2]
    have hv := val_sim hc 32 32 (Nat.le_refl _) (fun _ => rfl) t t' (start_tw h1) hs2
    simp only
    cases h3 : valN a 32 t with
    | error x =>
      refine ⟨fun x hx => (by cases hx), fun p e hx => ?_⟩
      cases hx
      obtain ⟨q, hq⟩ := hv.2 (fun h => h) _ _ h3
      rw [hq]; exact ⟨_, rfl⟩
    | ok y =>
      rcases hv.1 y.1 y.2 h3 with ⟨u', h4, hs4⟩ | ⟨hB, _⟩
      · rw [h4]
        have hk := (hc.kind hs4).2 (fun h => h)
        simp only
        rw [hk]
        by_cases h5 : y.2.k = 0
        · rw [if_pos h5, if_pos h5]
          exact ⟨fun x hx => hx, fun p e hx => (by cases hx)⟩
        · rw [if_neg h5, if_neg h5]
          refine ⟨fun x hx => (by cases hx), fun p e hx => ?_⟩
          cases hx
          exact ⟨_, rfl⟩
      · exact hB.elim

/-- What a text that is a value gives: its first token, the value, the end. -/
theorem parse_parts {a : List UInt8} {x : JV} (h : parseN a = .ok x) : ∃ t t1, tokN a 0 = .ok t ∧ valN a 32 t = .ok (x, t1) ∧ t1.k = 0 ∧ t.k ≠ 0 ∧ t.k ≠ 93 := by
  unfold parseN at h
  split at h
  · cases h
  · split at h
    · cases h
    · rename_i t ht
      split at h
      · cases h
      · rename_i y hy
        split at h
        · rename_i hk
          cases h
          refine ⟨t, y.2, ht, hy, hk, fun h0 => ?_, fun h0 => ?_⟩
          · obtain ⟨e, he⟩ := val_zero (s := a) (d := 32) h0
            rw [he] at hy; cases hy
          · unfold valN at hy
            rw [if_neg (by rw [h0]; decide), if_neg (by rw [h0]; decide), if_neg (by rw [h0]; decide)] at hy
            cases hy
        · cases h

theorem blanks_two {a b u : List UInt8} {x y : JV} (hu : ∀ c ∈ u, blankB.contains c = true) (ha : parseN a = .ok x) (hb : parseN b = .ok y) {s : List UInt8}
    (hs : s = u ++ 91 :: (u ++ (a ++ (u ++ 44 :: (u ++ (b ++ (u ++ [93]))))))) (hl : s.length ≤ 262144) :
    parseN s = .ok (.mk 6 noT [] [x, y]) ∨ ∃ p, parseN s = .error (p, 12) := by
  obtain ⟨ta, ta1, a1, a2, a3, a4, a5⟩ := parse_parts ha
  obtain ⟨tb, tb1, b1, b2, b3, b4, b5⟩ := parse_parts hb
  obtain ⟨m, hm⟩ : ∃ m, m = u.length := ⟨_, rfl⟩
  -- the places
  have d0 : s.drop m = 91 :: (u ++ (a ++ (u ++ 44 :: (u ++ (b ++ (u ++ [93])))))) := by rw [hs, hm, List.drop_left]
  have d1 : s.drop (m + 1) = u ++ (a ++ (u ++ 44 :: (u ++ (b ++ (u ++ [93]))))) := by rw [← List.drop_drop, d0]; rfl
  have d2 : s.drop (m + 1 + m) = a ++ (u ++ 44 :: (u ++ (b ++ (u ++ [93])))) := by rw [← List.drop_drop, d1, hm, List.drop_left]
  have d3 : s.drop (m + 1 + m + a.length) = u ++ 44 :: (u ++ (b ++ (u ++ [93]))) := by rw [← List.drop_drop, d2, List.drop_left]
  have d4 : s.drop (m + 1 + m + a.length + m) = 44 :: (u ++ (b ++ (u ++ [93]))) := by rw [← List.drop_drop, d3, hm, List.drop_left]
  have d5 : s.drop (m + 1 + m + a.length + m + 1) = u ++ (b ++ (u ++ [93])) := by rw [← List.drop_drop, d4]; rfl
  have d6 : s.drop (m + 1 + m + a.length + m + 1 + m) = b ++ (u ++ [93]) := by rw [← List.drop_drop, d5, hm, List.drop_left]
  have d7 : s.drop (m + 1 + m + a.length + m + 1 + m + b.length) = u ++ [93] := by rw [← List.drop_drop, d6, List.drop_left]
  have d8 : s.drop (m + 1 + m + a.length + m + 1 + m + b.length + m) = [93] := by rw [← List.drop_drop, d7, hm, List.drop_left]
  have hlen : s.length = m + 1 + m + a.length + m + 1 + m + b.length + m + 1 := by
    rw [hs]; simp only [List.length_append, List.length_cons, List.length_nil, ← hm]; omega
  have g0 : s[m]? = some 91 := by have := List.getElem?_drop (xs := s) (i := m) (j := 0); rw [d0] at this; simpa using this.symm
  have g4 : s[m + 1 + m + a.length + m]? = some 44 := by have := List.getElem?_drop (xs := s) (i := m + 1 + m + a.length + m) (j := 0); rw [d4] at this; simpa using this.symm
  have g8 : s[m + 1 + m + a.length + m + 1 + m + b.length + m]? = some 93 := by have := List.getElem?_drop (xs := s) (i := m + 1 + m + a.length + m + 1 + m + b.length + m) (j := 0); rw [d8] at this; simpa using this.symm
  have t0 : tokN s 0 = .ok ⟨91, m, noT, m + 1⟩ := by
    rw [tok_skip (v := u) (p := 0) hu (by rw [List.drop_zero]; exact hs), Nat.zero_add, ← hm, tok_sign g0 (by decide)]
    rfl
  have t1 : tokN s (m + 1) = tokN s (m + 1 + m) := by rw [tok_skip (v := u) (p := m + 1) hu d1, ← hm]
  have t3 : tokN s (m + 1 + m + a.length) = .ok ⟨44, m + 1 + m + a.length + m, noT, m + 1 + m + a.length + m + 1⟩ := by
    rw [tok_skip (v := u) (p := m + 1 + m + a.length) hu d3, ← hm, tok_sign g4 (by decide)]
    rfl
  have t5 : tokN s (m + 1 + m + a.length + m + 1) = tokN s (m + 1 + m + a.length + m + 1 + m) := by rw [tok_skip (v := u) (p := m + 1 + m + a.length + m + 1) hu d5, ← hm]
  have t7 : tokN s (m + 1 + m + a.length + m + 1 + m + b.length) = .ok ⟨93, m + 1 + m + a.length + m + 1 + m + b.length + m, noT, m + 1 + m + a.length + m + 1 + m + b.length + m + 1⟩ := by
    rw [tok_skip (v := u) (p := m + 1 + m + a.length + m + 1 + m + b.length) hu d7, ← hm, tok_sign g8 (by decide)]
    rfl
  have t9 : tokN s (m + 1 + m + a.length + m + 1 + m + b.length + m + 1) = .ok ⟨0, m + 1 + m + a.length + m + 1 + m + b.length + m + 1, noT, m + 1 + m + a.length + m + 1 + m + b.length + m + 1⟩ := tok_end s _ (by omega)
  have hLa : Lies a s (m + 1 + m) (u ++ 44 :: (u ++ (b ++ (u ++ [93])))) := ⟨d2, fun c r e => by
    cases hu' : u with
    | nil => rw [hu'] at e; cases e; decide
    | cons v w => rw [hu'] at e; cases e; exact blank_stop (hu c (by rw [hu']; simp)), by omega⟩
  have hLb : Lies b s (m + 1 + m + a.length + m + 1 + m) (u ++ [93]) := ⟨d6, fun c r e => by
    cases hu' : u with
    | nil => rw [hu'] at e; cases e; decide
    | cons v w => rw [hu'] at e; cases e; exact blank_stop (hu c (by rw [hu']; simp)), by omega⟩
  have hCa : Ctx a s (m + 1 + m) _ True := ⟨⟨_, hLa, fun h => absurd trivial h⟩, t3, fun h => absurd trivial h⟩
  have hCb : Ctx b s (m + 1 + m + a.length + m + 1 + m) _ True := ⟨⟨_, hLb, fun h => absurd trivial h⟩, t7, fun h => absurd trivial h⟩
  obtain ⟨ua, ua1, hsa⟩ := (hCa.tok (Nat.zero_le a.length)).1 ta a1
  obtain ⟨ub, ub1, hsb⟩ := (hCb.tok (Nat.zero_le b.length)).1 tb b1
  rw [Nat.add_zero] at ua1 ub1
  have ka := (hCa.kind hsa).1 a4
  have kb := (hCb.kind hsb).1 b4
  have va := (val_sim hCa 32 31 (by decide) (fun h => absurd trivial h) ta ua (start_tw a1) hsa).1 x ta1 a2
  have vb := (val_sim hCb 32 31 (by decide) (fun h => absurd trivial h) tb ub (start_tw b1) hsb).1 y tb1 b2
  have hps : parseN s = match valN s 32 ⟨91, m, noT, m + 1⟩ with | .error e => .error e | .ok y => if y.2.k = 0 then .ok y.1 else .error (y.2.a, 11) := by
    unfold parseN; rw [if_neg (by omega), t0]
    rfl
  have hv : valN s 32 ⟨91, m, noT, m + 1⟩ = match seqN s (listPart (valN s 31)) 93 ⟨91, m, noT, m + 1⟩ with | .error e => .error e | .ok y => .ok (.mk 6 noT y.1.1 y.1.2, y.2) := by
    rw [valN, if_pos rfl]
    cases seqN s (listPart (valN s 31)) 93 ⟨91, m, noT, m + 1⟩ <;> rfl
  have hq : seqN s (listPart (valN s 31)) 93 ⟨91, m, noT, m + 1⟩ = .ok (([], [x, y]), ⟨0, m + 1 + m + a.length + m + 1 + m + b.length + m + 1, noT, m + 1 + m + a.length + m + 1 + m + b.length + m + 1⟩) ∨ ∃ p, seqN s (listPart (valN s 31)) 93 ⟨91, m, noT, m + 1⟩ = .error (p, 12) := by
    unfold seqN
    rw [show (⟨91, m, noT, m + 1⟩ : Tk).q = m + 1 from rfl, t1, ua1]
    simp only
    unfold firstN
    rw [if_neg (show ¬ ua.k = 93 by rw [ka]; exact a5)]
    have pa : listPart (valN s 31) ua = (match valN s 31 ua with | .ok x => .ok ([], x.1, x.2) | .error e => .error e) := by unfold listPart; cases valN s 31 ua <;> rfl
    rw [pa]
    rcases va with ⟨w, hw, hsw⟩ | ⟨_, p, hw⟩
    · rw [hw]
      have ew : w = ⟨44, m + 1 + m + a.length + m, noT, m + 1 + m + a.length + m + 1⟩ := by
        rcases hsw with ⟨h1, _⟩ | ⟨_, h2⟩
        · exact absurd a3 h1
        · exact h2
      simp only
      rw [ew, moreN, if_neg (show ¬ (44 : Int) = 93 by decide), if_pos rfl]
      rw [show (⟨44, m + 1 + m + a.length + m, noT, m + 1 + m + a.length + m + 1⟩ : Tk).q = m + 1 + m + a.length + m + 1 from rfl, t5, ub1]
      simp only
      have pb : listPart (valN s 31) ub = (match valN s 31 ub with | .ok x => .ok ([], x.1, x.2) | .error e => .error e) := by unfold listPart; cases valN s 31 ub <;> rfl
      rw [pb]
      rcases vb with ⟨w2, hw2, hsw2⟩ | ⟨_, p, hw2⟩
      · rw [hw2]
        have ew2 : w2 = ⟨93, m + 1 + m + a.length + m + 1 + m + b.length + m, noT, m + 1 + m + a.length + m + 1 + m + b.length + m + 1⟩ := by
          rcases hsw2 with ⟨h1, _⟩ | ⟨_, h2⟩
          · exact absurd b3 h1
          · exact h2
        simp only
        obtain ⟨k, hk⟩ : ∃ k, s.length = k + 1 := ⟨_, hlen⟩
        rw [ew2, hk, moreN, if_pos rfl]
        simp only
        rw [t9]
        exact .inl rfl
      · rw [hw2]
        exact .inr ⟨p, rfl⟩
    · rw [hw]
      exact .inr ⟨p, rfl⟩
  rw [hps, hv]
  rcases hq with hq | ⟨p, hq⟩
  · rw [hq]; exact .inl rfl
  · rw [hq]; exact .inr ⟨p, rfl⟩
end Go.Proofs.YtmjooghfghmngaaDoor
