/- A text that stands within another one: its characters and strings are read there as they are alone. -/
import Derived.Test.YtjhnmedcmikdpaaDoorJNumP
namespace Go.Proofs.YtjhnmedcmikdpaaDoor
open Go.RowKit Go.Shelf Go.Lib

def stopB : List UInt8 := [32, 9, 10, 13, 44, 93]
/-- s, from place n on, is a, and what is behind it begins with none that a token could go on with. -/
structure Lies (a s : List UInt8) (n : Nat) (post : List UInt8) : Prop where
  eq : s.drop n = a ++ post
  stop : ∀ c r, post = c :: r → stopB.contains c = true
  fits : n ≤ s.length

theorem stop_facts {c : UInt8} (h : stopB.contains c = true) : c.toNat < 128 ∧ hexV c.toNat = none ∧ ¬ c.toNat = 92 ∧ ¬ (c.toNat = 34 ∨ c.toNat = 92 ∨ c.toNat = 47) ∧ ¬ c.toNat = 98 ∧ ¬ c.toNat = 102 ∧ ¬ c.toNat = 110 ∧ ¬ c.toNat = 114 ∧ ¬ c.toNat = 116 ∧ ¬ c.toNat = 117 ∧ lowB.contains c = false ∧ numsB.contains c = false := by
  have h1 : ∀ n : Nat, n < 256 → stopB.contains (UInt8.ofNat n) = true → n < 128 ∧ (hexV n).isNone = true ∧ ¬ n = 92 := by decide +kernel
  have h2 : ∀ n : Nat, n < 256 → stopB.contains (UInt8.ofNat n) = true → ¬ (n = 34 ∨ n = 92 ∨ n = 47) ∧ ¬ n = 98 ∧ ¬ n = 102 := by decide +kernel
  have h3 : ∀ n : Nat, n < 256 → stopB.contains (UInt8.ofNat n) = true → ¬ n = 110 ∧ ¬ n = 114 ∧ ¬ n = 116 ∧ ¬ n = 117 := by decide +kernel
  have h4 : ∀ n : Nat, n < 256 → stopB.contains (UInt8.ofNat n) = true → lowB.contains (UInt8.ofNat n) = false ∧ numsB.contains (UInt8.ofNat n) = false := by decide +kernel
  have g1 := h1 c.toNat c.toNat_lt
  have g2 := h2 c.toNat c.toNat_lt
  have g3 := h3 c.toNat c.toNat_lt
  have g4 := h4 c.toNat c.toNat_lt
  rw [UInt8.ofNat_toNat] at g1 g2 g3 g4
  obtain ⟨a1, a2, a3⟩ := g1 h
  obtain ⟨b1, b2, b3⟩ := g2 h
  obtain ⟨c1, c2, c3, c4⟩ := g3 h
  obtain ⟨d1, d2⟩ := g4 h
  exact ⟨a1, Option.isNone_iff_eq_none.1 a2, a3, b1, b2, b3, c1, c2, c3, c4, d1, d2⟩

def runeL (l : List UInt8) : Nat × Nat := Lib.decodeGo ⟨l.toArray⟩
theorem get_of (l : List UInt8) (i : Nat) : ByteArray.get! ⟨l.toArray⟩ i = l.getD i 0 := by
  simp [ByteArray.get!, List.getD_eq_getElem?_getD]
  rfl
theorem runeL_at {l : List UInt8} (h : l ≠ []) : runeL l = Lib.decodeN l.length (l.getD 0 0).toNat (l.getD 1 0).toNat (l.getD 2 0).toNat (l.getD 3 0).toNat := by
  have hz : ¬ (⟨l.toArray⟩ : ByteArray).size = 0 := by
    simp only [ByteArray.size, List.size_toArray]
    intro h0
    exact h (List.eq_nil_of_length_eq_zero h0)
  unfold runeL Lib.decodeGo
  rw [if_neg hz, Lib.decode_at]
  simp only [get_of]
  simp [ByteArray.size]
theorem rune_app {l post : List UInt8} (h : l ≠ []) (hs : ∀ c r, post = c :: r → c.toNat < 128) : runeL (l ++ post) = runeL l := by
  have h2 : l ++ post ≠ [] := by simp [h]
  rw [runeL_at h, runeL_at h2]
  cases post with
  | nil => simp
  | cons c r =>
    have hc := hs c r rfl
    have hc2 : ¬ c.toNat / 64 = 2 := by omega
    match l, h with
    | [b0], _ => simp [Lib.decodeN, hc2]
    | [b0, b1], _ => simp [Lib.decodeN, hc2]
    | [b0, b1, b2], _ => simp [Lib.decodeN, hc2]
    | b0 :: b1 :: b2 :: b3 :: l, _ => simp [Lib.decodeN]

section
variable {a s post : List UInt8} {n : Nat}
theorem Lies.at (h : Lies a s n post) {p : Nat} (hp : p ≤ a.length) : s.drop (n + p) = a.drop p ++ post := by
  rw [← List.drop_drop, h.eq, List.drop_append_of_le_length hp]
theorem Lies.len (h : Lies a s n post) : s.length = n + a.length + post.length := by
  have h1 := congrArg List.length h.eq
  simp only [List.length_drop, List.length_append] at h1
  have := h.fits
  omega
theorem Lies.low (h : Lies a s n post) : ∀ c r, post = c :: r → c.toNat < 128 := fun c r e => (stop_facts (h.stop c r e)).1
theorem Lies.rune (h : Lies a s n post) {p : Nat} (hp : p < a.length) : runeAt s (n + p) = runeAt a p := by
  have h1 : runeAt s (n + p) = runeL (s.drop (n + p)) := rfl
  rw [h1, h.at (Nat.le_of_lt hp)]
  exact rune_app (fun e => by have := congrArg List.length e; simp at this; omega) h.low
def sh (n : Nat) {α : Type} (x : α × Nat) : α × Nat := (x.1, n + x.2)
theorem Lies.char (h : Lies a s n post) {p : Nat} (hp : p < a.length) : charN s (n + p) = (charN a p).map (sh n) := by
  unfold charN
  rw [h.rune hp]
  split
  · rfl
  · simp [sh]; omega
theorem char_over {a : List UInt8} {p : Nat} (hp : a.length ≤ p) : charN a p = none := by
  unfold charN runeAt
  rw [List.drop_eq_nil_of_le hp]
  rfl
theorem char_low {s : List UInt8} {p : Nat} {c : UInt8} {r : List UInt8} (h : s.drop p = c :: r) (hc : c.toNat < 128) : charN s p = some (c.toNat, p + 1) := by
  have h1 : runeAt s p = (c.toNat, 1) := by
    show runeL (s.drop p) = _
    rw [h, runeL_at (by simp)]
    simp [Lib.decodeN, hc]
  unfold charN
  rw [h1]
  simp
  omega
theorem Lies.charEnd (h : Lies a s n post) : charN s (n + a.length) = none ∨ ∃ c, stopB.contains c = true ∧ charN s (n + a.length) = some (c.toNat, n + a.length + 1) := by
  have h1 := h.at (Nat.le_refl a.length)
  rw [List.drop_length, List.nil_append] at h1
  cases hp : post with
  | nil =>
    left
    exact char_over (by have := h.len; rw [hp] at this; simp at this; omega)
  | cons c r =>
    right
    rw [hp] at h1
    exact ⟨c, h.stop c r hp, char_low h1 (h.low c r hp)⟩

theorem Lies.unit (h : Lies a s n post) : ∀ (m p v : Nat), p ≤ a.length → unitN s m (n + p) v = (unitN a m p v).map (sh n)
  | 0, p, v, _ => by simp [unitN, sh]
  | m + 1, p, v, hp => by
    rw [unitN, unitN]
    rcases Nat.lt_or_ge p a.length with hlt | hge
    · rw [h.char hlt]
      cases hc : charN a p with
      | none => simp
      | some x =>
        have hx := (charN_le (r := x.1) (q := x.2) hc hp).1
        simp only [Option.map_some, Option.bind_some, sh]
        cases hexV x.1 with
        | none => simp
        | some d =>
          simp only [Option.bind_some]
          exact h.unit m x.2 _ hx
    · obtain rfl : p = a.length := by omega
      rw [char_over (Nat.le_refl _)]
      rcases h.charEnd with e | ⟨c, hc, e⟩
      · rw [e]; simp
      · rw [e]
        simp [(stop_facts hc).2.1]
theorem bind_sh {α β : Type} {o : Option (α × Nat)} {f f' : α × Nat → Option (β × Nat)} (h : ∀ x, o = some x → f' (sh n x) = (f x).map (sh n)) : (o.map (sh n)).bind f' = (o.bind f).map (sh n) := by
  cases o with
  | none => rfl
  | some x => exact h x rfl
theorem Lies.charB (h : Lies a s n post) {β : Type} {p : Nat} (hp : p ≤ a.length) {f f' : Nat × Nat → Option (β × Nat)} (hf : ∀ x, x.2 ≤ a.length → f' (sh n x) = (f x).map (sh n)) (hz : ∀ c : UInt8, stopB.contains c = true → f' (c.toNat, n + a.length + 1) = none) :
    (charN s (n + p)).bind f' = ((charN a p).bind f).map (sh n) := by
  rcases Nat.lt_or_ge p a.length with hlt | hge
  · rw [h.char hlt]
    exact bind_sh fun x hx => hf x (charN_le (r := x.1) (q := x.2) hx hp).1
  · obtain rfl : p = a.length := by omega
    rw [char_over (Nat.le_refl _)]
    rcases h.charEnd with e | ⟨c, hc, e⟩
    · rw [e]; rfl
    · rw [e]
      exact hz c hc
theorem Lies.coded (h : Lies a s n post) {p : Nat} (hp : p ≤ a.length) : codedN s (n + p) = (codedN a p).map (sh n) := by
  unfold codedN
  rw [h.unit 4 p 0 hp]
  refine bind_sh fun x hx => ?_
  have hx2 := (unitN_lt (r := x.1) (q := x.2) hx).2 hp
  clear hx
  obtain ⟨x1, x2⟩ := x
  simp only [sh] at hx2 ⊢
  by_cases hv : Lib.validRune (x1 : Int) = true
  · simp only [hv, if_true, Option.map_some, sh]
  · simp only [hv]
    refine h.charB hx2 (fun y hy => ?_) (fun c hc => if_neg (stop_facts hc).2.2.1)
    obtain ⟨y1, y2⟩ := y
    simp only [sh] at hy ⊢
    by_cases h1 : y1 = 92
    · simp only [h1, if_true]
      refine h.charB hy (fun z hz => ?_) (fun c hc => if_neg (stop_facts hc).2.2.2.2.2.2.2.2.2.1)
      obtain ⟨z1, z2⟩ := z
      simp only [sh] at hz ⊢
      by_cases h2 : z1 = 117
      · simp only [h2, if_true]
        rw [h.unit 4 z2 0 hz]
        refine bind_sh fun u _ => ?_
        obtain ⟨u1, u2⟩ := u
        simp only [sh]
        generalize 65536 + (x1 - 55296) * 1024 + (u1 - 56320) = V
        by_cases h3 : (55296 ≤ x1 ∧ x1 ≤ 56319) ∧ 56320 ≤ u1 ∧ u1 ≤ 57343
        · simp only [h3, and_self, if_true, Option.map_some, sh]
        · simp only [h3, if_false, Option.map_none]
      · simp only [h2, if_false, Option.map_none]
    · simp only [h1, if_false, Option.map_none]
theorem Lies.esc (h : Lies a s n post) {p : Nat} (hp : p ≤ a.length) : escN s (n + p) = (escN a p).map (sh n) := by
  unfold escN
  rcases Nat.lt_or_ge p a.length with hlt | hge
  · rw [h.char hlt]
    cases hc : charN a p with
    | none => rfl
    | some x =>
      have hx := (charN_le (r := x.1) (q := x.2) hc hp).1
      simp only [Option.map_some, Option.bind_some, sh]
      repeat' split
      all_goals first | rfl | exact h.coded hx
  · obtain rfl : p = a.length := by omega
    rw [char_over (Nat.le_refl _)]
    rcases h.charEnd with e | ⟨c, hc, e⟩
    · rw [e]; rfl
    · rw [e]
      obtain ⟨_, _, _, f1, f2, f3, f4, f5, f6, f7, _⟩ := stop_facts hc
      simp only [Option.bind_some, f1, f2, f3, f4, f5, f6, f7, if_false]
      rfl

theorem Lies.said (h : Lies a s n post) : ∀ (m m' p : Nat) (z : List UInt8 × Nat), m ≤ m' → p ≤ a.length → saidN a m p = some z → saidN s m' (n + p) = some (sh n z)
  | 0, _, _, _, _, _, hz => by cases hz
  | m + 1, 0, _, _, hm, _, _ => by omega
  | m + 1, m' + 1, p, z, hm, hp, hz => by
    have hlt : p < a.length := by
      rcases Nat.lt_or_ge p a.length with hlt | hge
      · exact hlt
      · unfold saidN at hz
        rw [char_over hge] at hz
        cases hz
    unfold saidN at hz ⊢
    rw [h.char hlt]
    cases hc : charN a p with
    | none => rw [hc] at hz; cases hz
    | some x =>
      have hx := (charN_le (r := x.1) (q := x.2) hc hp).1
      rw [hc] at hz
      simp only [Option.map_some, Option.bind_some, sh] at hz ⊢
      split at hz
      · rename_i h1
        rw [if_pos h1]
        cases hz; rfl
      · rename_i h1
        rw [if_neg h1]
        split at hz
        · rename_i h2
          rw [if_pos h2, h.esc hx]
          cases he : escN a x.2 with
          | none => rw [he] at hz; cases hz
          | some y =>
            have hy := (escN_lt (r := y.1) (q := y.2) he).2 hx
            rw [he] at hz
            simp only [Option.map_some, Option.bind_some, Option.map_eq_some_iff, sh] at hz ⊢
            obtain ⟨u, hu, rfl⟩ := hz
            exact ⟨_, h.said m m' y.2 u (by omega) hy hu, rfl⟩
        · rename_i h2
          rw [if_neg h2]
          split at hz
          · cases hz
          · rename_i h3
            rw [if_neg h3]
            simp only [Option.map_eq_some_iff] at hz ⊢
            obtain ⟨u, hu, rfl⟩ := hz
            exact ⟨_, h.said m m' x.2 u (by omega) hx hu, rfl⟩
theorem said_fuel : ∀ (m m' p : Nat) (z : List UInt8 × Nat), p ≤ a.length → a.length < m' + p → saidN a m p = some z → saidN a m' p = some z
  | 0, _, _, _, _, _, hz => by cases hz
  | m + 1, 0, p, z, hp, hm, hz => by omega
  | m + 1, m' + 1, p, z, hp, hm, hz => by
    unfold saidN at hz ⊢
    cases hc : charN a p with
    | none => rw [hc] at hz; cases hz
    | some x =>
      have hx := (charN_le (r := x.1) (q := x.2) hc hp).1
      have hl := charN_lt (r := x.1) (q := x.2) hc
      rw [hc] at hz
      simp only [Option.bind_some] at hz ⊢
      split at hz
      · rename_i h1
        rw [if_pos h1]
        exact hz
      · rename_i h1
        rw [if_neg h1]
        split at hz
        · rename_i h2
          rw [if_pos h2]
          cases he : escN a x.2 with
          | none => rw [he] at hz; cases hz
          | some y =>
            have hy := escN_lt (r := y.1) (q := y.2) he
            rw [he] at hz
            simp only [Option.bind_some, Option.map_eq_some_iff] at hz ⊢
            obtain ⟨u, hu, rfl⟩ := hz
            exact ⟨_, said_fuel m m' y.2 u (hy.2 hx) (by omega) hu, rfl⟩
        · rename_i h2
          rw [if_neg h2]
          split at hz
          · cases hz
          · rename_i h3
            rw [if_neg h3]
            simp only [Option.map_eq_some_iff] at hz ⊢
            obtain ⟨u, hu, rfl⟩ := hz
            exact ⟨_, said_fuel m m' x.2 u hx (by omega) hu, rfl⟩
/-- Of blanks alone no string ends. -/
theorem said_blanks {s : List UInt8} : ∀ (m p : Nat), (∀ c ∈ s.drop p, blankB.contains c = true) → saidN s m p = none
  | 0, _, _ => rfl
  | m + 1, p, hb => by
    unfold saidN
    cases hd : s.drop p with
    | nil =>
      rw [char_over (by
        rcases Nat.lt_or_ge p s.length with h | h
        · rw [List.drop_eq_getElem_cons h] at hd; cases hd
        · exact h)]
      rfl
    | cons c r =>
      have hc := hb c (by rw [hd]; simp)
      have hh : ∀ n : Nat, n < 256 → blankB.contains (UInt8.ofNat n) = true → n < 128 ∧ ¬ n = 34 ∧ ¬ n = 92 := by decide +kernel
      have hf := hh c.toNat c.toNat_lt (by rw [UInt8.ofNat_toNat]; exact hc)
      rw [char_low hd hf.1]
      simp only [Option.bind_some, hf.2.1, hf.2.2, if_false]
      split
      · rfl
      · rw [said_blanks m (p + 1) (fun x hx => hb x (by
          have : s.drop (p + 1) = r := by rw [← List.drop_drop, hd]; rfl
          rw [this] at hx
          rw [hd]; simp [hx]))]
        rfl
theorem Lies.back (h : Lies a s n post) (hb : ∀ c ∈ post, blankB.contains c = true) : ∀ (m p : Nat) (z : List UInt8 × Nat), p ≤ a.length → saidN s m (n + p) = some z → ∃ q, saidN a m p = some (z.1, q)
  | 0, _, _, _, hz => by cases hz
  | m + 1, p, z, hp, hz => by
    rcases Nat.lt_or_ge p a.length with hlt | hge
    · unfold saidN at hz ⊢
      rw [h.char hlt] at hz
      cases hc : charN a p with
      | none => rw [hc] at hz; cases hz
      | some x =>
        have hx := (charN_le (r := x.1) (q := x.2) hc hp).1
        rw [hc] at hz
        simp only [Option.map_some, Option.bind_some, sh] at hz ⊢
        split at hz
        · rename_i h1
          rw [if_pos h1]
          cases hz
          exact ⟨_, rfl⟩
        · rename_i h1
          rw [if_neg h1]
          split at hz
          · rename_i h2
            rw [if_pos h2]
            rw [h.esc hx] at hz
            cases he : escN a x.2 with
            | none => rw [he] at hz; cases hz
            | some y =>
              have hy := (escN_lt (r := y.1) (q := y.2) he).2 hx
              rw [he] at hz
              simp only [Option.map_some, Option.bind_some, Option.map_eq_some_iff, sh] at hz ⊢
              obtain ⟨u, hu, rfl⟩ := hz
              obtain ⟨q, hq⟩ := h.back hb m y.2 u hy hu
              exact ⟨q, _, hq, rfl⟩
          · rename_i h2
            rw [if_neg h2]
            split at hz
            · cases hz
            · rename_i h3
              rw [if_neg h3]
              simp only [Option.map_eq_some_iff] at hz ⊢
              obtain ⟨u, hu, rfl⟩ := hz
              obtain ⟨q, hq⟩ := h.back hb m x.2 u hx hu
              exact ⟨q, _, hq, rfl⟩
    · obtain rfl : p = a.length := by omega
      have h1 := h.at (Nat.le_refl a.length)
      rw [List.drop_length, List.nil_append] at h1
      rw [said_blanks (m + 1) (n + a.length) (fun c hc => hb c (by rw [h1] at hc; exact hc))] at hz
      cases hz
end
end Go.Proofs.YtjhnmedcmikdpaaDoor
