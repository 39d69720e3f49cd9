/- A valid text between quotes, as the printer shows it, and as the law writes it: it is read as it was. -/
import Derived.Test.YtmjooghfghmngaaDoorJEnc
import Derived.Lib.TrimUEq
namespace Go.Proofs.YtmjooghfghmngaaDoor
open Go.RowKit Go.Shelf Go.Lib

theorem decode_good (l : List UInt8) (hv : ¬ ((Lib.decodeL l).1 = 65533 ∧ (Lib.decodeL l).2 = 1)) : Good (Lib.decodeL l).1 := by
  have k0 := (l.getD 0 0).toNat_lt
  have k1 := (l.getD 1 0).toNat_lt
  have k2 := (l.getD 2 0).toNat_lt
  have k3 := (l.getD 3 0).toNat_lt
  rw [Lib.decodeL_N] at hv ⊢
  unfold Good
  rcases Lib.decodeN_shape l.length (l.getD 0 0).toNat (l.getD 1 0).toNat (l.getD 2 0).toNat (l.getD 3 0).toNat with ⟨c, e⟩ | ⟨c1, c2, c3, cv, e⟩ | ⟨c1, c2, c3, c4, cv, cs, e⟩ | ⟨c1, c2, c3, c4, c5, cv, cw, e⟩ | e
  · rw [e]; left; show (l.getD 0 0).toNat < 55296; omega
  · rw [e]; left; simp only; omega
  · rw [e]; simp only; omega
  · rw [e]; simp only; omega
  · rw [e] at hv; exact absurd ⟨rfl, rfl⟩ hv
/-- A valid text that is not empty begins with a character. -/
theorem valid_head {l : List UInt8} (hne : l ≠ []) (hv : Lib.validD l = true) : ∃ r, r = (Lib.decodeL l).1 ∧ Good r ∧ (Lib.decodeL l).2 = (Lib.encodeRune (r : Int)).length ∧ l = Lib.encodeRune (r : Int) ++ l.drop (Lib.encodeRune (r : Int)).length ∧ Lib.validD (l.drop (Lib.encodeRune (r : Int)).length) = true := by
  rw [Lib.validD_step l hne] at hv
  by_cases hb : (Lib.decodeL l).1 = 65533 ∧ (Lib.decodeL l).2 = 1
  · rw [if_pos hb] at hv; cases hv
  rw [if_neg hb] at hv
  have he := Lib.encode_decode l hne hb
  have hle := Lib.decodeL_le l hne
  have hn : (Lib.encodeRune ((Lib.decodeL l).1 : Int)).length = (Lib.decodeL l).2 := by rw [he, List.length_take]; omega
  refine ⟨_, rfl, decode_good l hb, hn.symm, ?_, by rw [hn]; exact hv⟩
  rw [hn]
  conv => lhs; rw [← List.take_append_drop (Lib.decodeL l).2 l, ← he]

theorem hexl (d : Nat) (h : d < 16) : (hexL.getD d 0).toNat < 128 ∧ hexV (hexL.getD d 0).toNat = some d := by
  have h1 : ∀ d : Nat, d < 16 → (hexL.getD d 0).toNat < 128 ∧ hexV (hexL.getD d 0).toNat = some d := by decide +kernel
  exact h1 d h
theorem says_shown {r : Nat} (h : Good r) : Says (shownL r) r := by
  unfold shownL
  by_cases c1 : r = 34
  · rw [if_pos c1, c1]
    exact says_esc (c := 34) (by decide) (fun s p q hc => esc_same (.inl rfl) s p q hc)
  rw [if_neg c1]
  by_cases c2 : r = 92
  · rw [if_pos c2, c2]
    exact says_esc (c := 92) (by decide) (fun s p q hc => esc_same (.inr (.inl rfl)) s p q hc)
  rw [if_neg c2]
  by_cases c3 : r = 8
  · rw [if_pos c3, c3]
    exact says_esc (c := 98) (by decide) (fun s p q hc => by unfold escN; rw [hc, Option.bind_some]; rfl)
  rw [if_neg c3]
  by_cases c4 : r = 12
  · rw [if_pos c4, c4]
    exact says_esc (c := 102) (by decide) (fun s p q hc => by unfold escN; rw [hc, Option.bind_some]; rfl)
  rw [if_neg c4]
  by_cases c5 : r = 10
  · rw [if_pos c5, c5]
    exact says_esc (c := 110) (by decide) (fun s p q hc => by unfold escN; rw [hc, Option.bind_some]; rfl)
  rw [if_neg c5]
  by_cases c6 : r = 13
  · rw [if_pos c6, c6]
    exact says_esc (c := 114) (by decide) (fun s p q hc => by unfold escN; rw [hc, Option.bind_some]; rfl)
  rw [if_neg c6]
  by_cases c7 : r = 9
  · rw [if_pos c7, c7]
    exact says_esc (c := 116) (by decide) (fun s p q hc => by unfold escN; rw [hc, Option.bind_some]; rfl)
  rw [if_neg c7]
  by_cases c8 : r < 32
  · rw [if_pos c8]
    obtain ⟨a1, a2⟩ := hexl (r / 16) (by omega)
    obtain ⟨b1, b2⟩ := hexl (r % 16) (by omega)
    have := says_hex a1 b1 a2 b2 (by omega)
    rwa [show r / 16 * 16 + r % 16 = r by omega] at this
  · rw [if_neg c8]
    exact says_plain h (by omega) c1 c2
theorem shown_len (r : Nat) : (shownL r).length ≤ 6 * (Lib.encodeRune (r : Int)).length := by
  have := enc_len (r := r)
  unfold shownL
  repeat' split
  all_goals first | (simp only [List.length_cons, List.length_nil]; omega) | omega

/-- Pieces that make up a text, and what they say. -/
def Pieces (l out : List UInt8) : Prop := ∃ ps : List (List UInt8 × Nat), (∀ p ∈ ps, Says p.1 p.2) ∧ out = ps.flatMap (·.1) ∧ l = (ps.flatMap fun p => Lib.encodeRune (p.2 : Int)) ∧ out.length ≤ 6 * l.length
theorem Pieces.nil : Pieces [] [] := ⟨[], fun p hp => (by cases hp), rfl, rfl, Nat.le_refl _⟩
theorem Pieces.cons {r : Nat} {p l out : List UInt8} (hp : Says p r) (hl : p.length ≤ 6 * (Lib.encodeRune (r : Int)).length) (h : Pieces l out) : Pieces (Lib.encodeRune (r : Int) ++ l) (p ++ out) := by
  obtain ⟨ps, h1, rfl, h3, h4⟩ := h
  refine ⟨(p, r) :: ps, fun q hq => ?_, by simp, by rw [List.flatMap_cons, ← h3], by simp only [List.length_append]; omega⟩
  rcases List.mem_cons.1 hq with rfl | hq
  · exact hp
  · exact h1 q hq

theorem shown_pieces (s : ByteArray) : ∀ (f pos : Nat), pos ≤ s.size → s.size < f + pos → Lib.validD (s.data.toList.drop pos) = true → Pieces (s.data.toList.drop pos) (shownFrom s f pos)
  | 0, pos, h1, h2, _ => by omega
  | f + 1, pos, h1, h2, hv => by
    unfold shownFrom
    by_cases hp : pos < s.size
    · rw [if_pos hp]
      have hne : s.data.toList.drop pos ≠ [] := fun e => by
        have := congrArg List.length e
        rw [List.length_drop, ← Lib.size_eq] at this
        simp at this
        omega
      obtain ⟨r, hr, hg, hn, he, hv2⟩ := valid_head hne hv
      have hd : Utf8.decode s pos = Lib.decodeL (s.data.toList.drop pos) := (Lib.decodeL_drop s pos).symm
      rw [hd, ← hr, hn]
      have hl := enc_len (r := r)
      have hle : pos + (Lib.encodeRune (r : Int)).length ≤ s.size := by
        have := congrArg List.length he
        rw [List.length_append, List.length_drop, List.length_drop, ← Lib.size_eq] at this
        omega
      rw [List.drop_drop] at hv2 he
      have ih := shown_pieces s f (pos + (Lib.encodeRune (r : Int)).length) hle (by omega) hv2
      rw [he]
      exact Pieces.cons (says_shown hg) (shown_len r) ih
    · rw [if_neg hp, List.drop_eq_nil_of_le (by rw [← Lib.size_eq]; omega)]
      exact Pieces.nil

/-- The law's way to write a text: a byte as it is, or escaped. -/
def hexU : List UInt8 := [48, 49, 50, 51, 52, 53, 54, 55, 56, 57, 65, 66, 67, 68, 69, 70]
theorem hexu (d : Nat) (h : d < 16) : (hexU.getD d 0).toNat < 128 ∧ hexV (hexU.getD d 0).toNat = some d := by
  have h1 : ∀ d : Nat, d < 16 → (hexU.getD d 0).toNat < 128 ∧ hexV (hexU.getD d 0).toNat = some d := by decide +kernel
  exact h1 d h
def escU (c : UInt8) : List UInt8 := [92, 117, 48, 48, hexU.getD (c.toNat / 16) 0, hexU.getD (c.toNat % 16) 0]
def alt (b : Bool) (c : UInt8) : List UInt8 := if 128 ≤ c.toNat ∨ (32 ≤ c.toNat ∧ c.toNat ≠ 34 ∧ c.toNat ≠ 92 ∧ b = true) then [c] else escU c
def altAll (f : Nat → Bool) : Nat → List UInt8 → List UInt8
  | _, [] => []
  | j, c :: r => alt (f j) c ++ altAll f (j + 1) r
theorem alt_high (f : Nat → Bool) : ∀ (l : List UInt8) (j : Nat) (r : List UInt8), (∀ c ∈ l, 128 ≤ c.toNat) → altAll f j (l ++ r) = l ++ altAll f (j + l.length) r
  | [], j, r, _ => rfl
  | c :: l, j, r, h => by
    rw [List.cons_append, altAll, alt, if_pos (.inl (h c (by simp))), alt_high f l (j + 1) r (fun x hx => h x (by simp [hx]))]
    rw [List.length_cons, show j + 1 + l.length = j + (l.length + 1) by omega]
    rfl
theorem alt_pieces (f : Nat → Bool) : ∀ (n : Nat) (l : List UInt8) (j : Nat), l.length ≤ n → Lib.validD l = true → Pieces l (altAll f j l)
  | 0, l, j, h, _ => by
    obtain rfl := List.eq_nil_of_length_eq_zero (Nat.le_zero.1 h)
    exact Pieces.nil
  | n + 1, l, j, h, hv => by
    by_cases hne : l = []
    · subst hne; exact Pieces.nil
    obtain ⟨r, hr, hg, hn, he, hv2⟩ := valid_head hne hv
    have hl := enc_len (r := r)
    generalize l.drop (Lib.encodeRune (r : Int)).length = q at he hv2
    have hql : q.length ≤ n := by
      have := congrArg List.length he
      rw [List.length_append] at this
      omega
    rw [he]
    by_cases hc : r < 128
    · have h1 := enc_one hc
      have hcn : (UInt8.ofNat r).toNat = r := by rw [UInt8.toNat_ofNat']; omega
      have ih := alt_pieces f n q (j + 1) hql hv2
      have e : altAll f j (Lib.encodeRune (r : Int) ++ q) = alt (f j) (UInt8.ofNat r) ++ altAll f (j + 1) q := by rw [h1]; rfl
      rw [e]
      refine Pieces.cons ?_ ?_ ih
      · unfold alt
        by_cases hp : 128 ≤ (UInt8.ofNat r).toNat ∨ (32 ≤ (UInt8.ofNat r).toNat ∧ (UInt8.ofNat r).toNat ≠ 34 ∧ (UInt8.ofNat r).toNat ≠ 92 ∧ f j = true)
        · rw [if_pos hp, ← h1]
          rw [hcn] at hp
          exact says_plain hg (by omega) (by omega) (by omega)
        · rw [if_neg hp]
          unfold escU
          rw [hcn]
          obtain ⟨a1, a2⟩ := hexu (r / 16) (by omega)
          obtain ⟨b1, b2⟩ := hexu (r % 16) (by omega)
          have := says_hex a1 b1 a2 b2 (by omega)
          rwa [show r / 16 * 16 + r % 16 = r by omega] at this
      · rw [h1]
        unfold alt escU
        split <;> simp
    · have hhi := enc_high2 (r := r) (by omega)
      rw [alt_high f _ j q hhi]
      exact Pieces.cons (says_plain hg (by omega) (by omega) (by omega)) (by omega) (alt_pieces f n q _ hql hv2)

/-- Read as it was. -/
theorem Pieces.parse {l out : List UInt8} (h : Pieces l out) (hl : l.length ≤ 2000) {s : List UInt8} (hs : s = 34 :: (out ++ [34])) : parseN s = .ok (.mk 5 ⟨l.toArray⟩ [] []) ∧ s.length ≤ 12002 := by
  obtain ⟨ps, h1, h2, h3, h4⟩ := h
  have hlen : s.length = out.length + 2 := by rw [hs]; simp
  refine ⟨?_, by omega⟩
  rw [h3]
  exact parse_quoted h1 (by rw [hs, h2]) (by omega)
end Go.Proofs.YtmjooghfghmngaaDoor
