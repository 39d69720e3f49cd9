/- What is read is sound (plain). -/
import Derived.Test.YtmjooghfghmngaaDoorJSnd
import Derived.Test.YtmjooghfghmngaaDoorJEnd
import Derived.Test.YtmjooghfghmngaaDoorJSame
namespace Go.Proofs.YtmjooghfghmngaaDoor
open Go.RowKit Go.Shelf Go.Lib

theorem rune_dec {l : List UInt8} (h : l ≠ []) : Lib.decodeL l = runeL l := by rw [Lib.decodeL_N, runeL_at h]
theorem char_good {s : List UInt8} {p : Nat} {x : Nat × Nat} (h : charN s p = some x) : Good x.1 := by
  unfold charN at h
  split at h
  · cases h
  · rename_i hn
    cases h
    have e : runeAt s p = runeL (s.drop p) := rfl
    rw [e] at hn ⊢
    by_cases hd : s.drop p = []
    · rw [hd] at hn
      exact absurd (by decide +kernel : (runeL []).1 = 65533 ∧ (runeL []).2 < 3) hn
    · rw [← rune_dec hd] at hn ⊢
      exact decode_good _ (fun ⟨a, b⟩ => hn ⟨a, by omega⟩)
theorem rune_good {r : Nat} (h : Lib.validRune (r : Int) = true) : Good r := by
  unfold Lib.validRune at h
  unfold Good
  simp at h
  omega
theorem coded_good {s : List UInt8} {p : Nat} {x : Nat × Nat} (h : codedN s p = some x) : Good x.1 := by
  unfold codedN at h
  simp only [Option.bind_eq_some_iff] at h
  obtain ⟨y, hy, h⟩ := h
  split at h
  · rename_i hv
    cases h
    exact rune_good hv
  · simp only [Option.bind_eq_some_iff] at h
    obtain ⟨a, ha, h⟩ := h
    split at h
    · simp only [Option.bind_eq_some_iff] at h
      obtain ⟨b, hb, h⟩ := h
      split at h
      · simp only [Option.bind_eq_some_iff] at h
        obtain ⟨u, hu, h⟩ := h
        split at h
        · rename_i hh
          have e := congrArg Prod.fst (Option.some.inj h)
          simp only at e
          right
          omega
        · cases h
      · cases h
    · cases h
theorem esc_good {s : List UInt8} {p : Nat} {x : Nat × Nat} (h : escN s p = some x) : Good x.1 := by
  unfold escN at h
  simp only [Option.bind_eq_some_iff] at h
  obtain ⟨y, hy, h⟩ := h
  have hg := char_good hy
  split at h
  · cases h; exact hg
  · split at h
    · cases h; exact .inl (by simp)
    · split at h
      · cases h; exact .inl (by simp)
      · split at h
        · cases h; exact .inl (by simp)
        · split at h
          · cases h; exact .inl (by simp)
          · split at h
            · cases h; exact .inl (by simp)
            · split at h
              · exact coded_good h
              · cases h
theorem valid_enc {r : Nat} (h : Good r) {l : List UInt8} (hv : Lib.validD l = true) : Lib.validD (Lib.encodeRune (r : Int) ++ l) = true := by
  have hl := (enc_len (r := r)).1
  have hne : Lib.encodeRune (r : Int) ++ l ≠ [] := by
    intro e
    have := congrArg List.length e
    rw [List.length_append] at this
    simp only [List.length_nil] at this
    omega
  rw [Lib.validD_step _ hne, rune_dec hne, dec_enc h, if_neg, List.drop_left]
  · exact hv
  · intro ⟨a, b⟩
    simp only at a b
    rw [a] at b
    have : (Lib.encodeRune ((65533 : Nat) : Int)).length = 3 := by kernel_rfl
    omega
theorem said_valid {s : List UInt8} : ∀ (m p : Nat) (z : List UInt8 × Nat), saidN s m p = some z → Lib.validD z.1 = true
  | 0, _, _, h => by cases h
  | m + 1, p, z, h => by
    rw [saidN] at h
    simp only [Option.bind_eq_some_iff] at h
    obtain ⟨x, hx, h⟩ := h
    split at h
    · cases h; rfl
    · split at h
      · simp only [Option.bind_eq_some_iff, Option.map_eq_some_iff] at h
        obtain ⟨y, hy, u, hu, rfl⟩ := h
        exact valid_enc (esc_good hy) (said_valid m _ u hu)
      · split at h
        · cases h
        · simp only [Option.map_eq_some_iff] at h
          obtain ⟨u, hu, rfl⟩ := h
          exact valid_enc (char_good hx) (said_valid m _ u hu)
/-- What a token's text is. -/
def TS (tk : Tk) : Prop := (tk.k = 1 ∨ tk.k = 2 ∨ tk.k = 3 → tk.t = noT) ∧ (tk.k = 4 → numB tk.t.data.toList = true) ∧ (tk.k = 5 → Lib.validD tk.t.data.toList = true)
theorem ts_no {k : Int} {a q : Nat} (h4 : k ≠ 4) (h5 : k ≠ 5) : TS ⟨k, a, noT, q⟩ := ⟨fun _ => rfl, fun h => absurd h h4, fun h => absurd h h5⟩
theorem word_small (l : List UInt8) : wordK l ≠ 4 ∧ wordK l ≠ 5 := by
  unfold wordK
  repeat' split
  all_goals decide
theorem tokN_ts {s : List UInt8} {p : Nat} {tk : Tk} (h : tokN s p = .ok tk) : TS tk := by
  unfold tokN tokL at h
  generalize blankE s p = q at *
  cases hx : s[q]? with
  | none =>
    rw [hx] at h
    cases h
    exact ts_no (by decide) (by decide)
  | some c =>
    rw [hx] at h
    simp only at h
    unfold tokC at h
    split at h
    · rename_i heq
      injection h with h
      subst h
      split at heq
      · rename_i hs
        cases heq
        have hc : ∀ c : UInt8, signB.contains c = true → ((c.toNat : Nat) : Int) ≠ 4 ∧ ((c.toNat : Nat) : Int) ≠ 5 := by
          intro c hc
          unfold signB at hc
          simp only [List.contains_cons, Bool.or_eq_true, beq_iff_eq, List.contains_nil, Bool.false_eq_true, or_false] at hc
          rcases hc with rfl | rfl | rfl | rfl | rfl | rfl <;> decide
        exact ts_no (hc c hs).1 (hc c hs).2
      · split at heq
        · split at heq
          · rename_i z hz
            cases heq
            exact ⟨fun h => by simp only at h; omega, fun h => by simp only at h; omega, fun _ => said_valid _ _ z hz⟩
          · cases heq
        · split at heq
          · split at heq
            · cases heq
            · cases heq
              exact ts_no (word_small _).1 (word_small _).2
          · split at heq
            · split at heq
              · rename_i hn
                cases heq
                exact ⟨fun h => by simp only at h; omega, fun _ => hn, fun h => by simp only at h; omega⟩
              · cases heq
            · cases heq
    · cases h
section
variable {s : List UInt8} {P : JV → Prop} {part : Tk → RR (List ByteArray × JV × Tk)} {last : Int} {q : Nat} {T : Tk → Prop} {V : ByteArray → Prop}
theorem more_psn (hT : ∀ p tk, tokN s p = .ok tk → T tk) (hp : ∀ t x, T t → part t = .ok x → P x.2.1 ∧ x.1.length = q ∧ ∀ k ∈ x.1, V k) : ∀ (m : Nat) (tk : Tk) (ks : List ByteArray) (xs : List JV), (∀ x ∈ xs, P x) → ks.length = q * xs.length → (∀ k ∈ ks, V k) → ∀ y, moreN s part last m tk ks xs = .ok y → (∀ x ∈ y.1.2, P x) ∧ y.1.1.length = q * y.1.2.length ∧ ∀ k ∈ y.1.1, V k
  | 0, _, _, _, _, _, _, y, h => by cases h
  | m + 1, tk, ks, xs, hx, hl, hv, y, h => by
    unfold moreN at h
    split at h
    · cases h; exact ⟨hx, hl, hv⟩
    · split at h
      · split at h
        · cases h
        · rename_i t1 h1
          split at h
          · cases h
          · rename_i z hz
            obtain ⟨p1, p2, p3⟩ := hp t1 z (hT _ _ h1) hz
            exact more_psn hT hp m z.2.2 (ks ++ z.1) (xs ++ [z.2.1]) (fun x hx' => by
              rcases List.mem_append.1 hx' with h' | h'
              · exact hx x h'
              · rw [List.mem_singleton] at h'; rw [h']; exact p1) (by rw [List.length_append, List.length_append, hl, p2, Nat.mul_add]; simp) (fun k hk => by
              rcases List.mem_append.1 hk with h' | h'
              · exact hv k h'
              · exact p3 k h') y h
      · cases h
theorem seq_psn (hT : ∀ p tk, tokN s p = .ok tk → T tk) (hp : ∀ t x, T t → part t = .ok x → P x.2.1 ∧ x.1.length = q ∧ ∀ k ∈ x.1, V k) {tk : Tk} {y : (List ByteArray × List JV) × Tk} (h : seqN s part last tk = .ok y) : (∀ x ∈ y.1.2, P x) ∧ y.1.1.length = q * y.1.2.length ∧ ∀ k ∈ y.1.1, V k := by
  unfold seqN at h
  split at h
  · cases h
  · rename_i t1 h1
    split at h
    · cases h
    · rename_i z hz
      split at h
      · cases h
      · rename_i t4 h4
        cases h
        unfold firstN at hz
        split at hz
        · cases hz; exact ⟨fun x hx => (by cases hx), by simp, fun k hk => (by cases hk)⟩
        · split at hz
          · cases hz
          · rename_i v hv
            obtain ⟨p1, p2, p3⟩ := hp t1 v (hT _ _ h1) hv
            exact more_psn hT hp (s.length + 1) v.2.2 v.1 [v.2.1] (fun x hx => by rw [List.mem_singleton] at hx; rw [hx]; exact p1) (by rw [p2]; simp) p3 z hz
theorem leaf_sound {k : Int} {t : ByteArray} (h1 : 1 ≤ k ∧ k ≤ 5) (hT : (k = 1 ∨ k = 2 ∨ k = 3 → t = noT) ∧ (k = 4 → numB t.data.toList = true) ∧ (k = 5 → Lib.validD t.data.toList = true)) (d : Nat) : soundJ d (.mk k t [] []) = true := by
  have hh : ∀ wi, headJ k t 0 0 wi = true := fun wi => by
    unfold headJ
    by_cases c : k = 1 ∨ k = 2 ∨ k = 3
    · rw [if_pos c, hT.1 c]; simp [noT]
    rw [if_neg c]
    by_cases c4 : k = 4
    · rw [if_pos c4, hT.2.1 c4]; rfl
    have c5 : k = 5 := by omega
    rw [if_neg c4, if_pos c5, hT.2.2 c5]; rfl
  cases d with
  | zero => exact hh false
  | succ d => exact hh _
theorem val_psn : ∀ (d : Nat) (tk : Tk) (x : JV) (t : Tk), TS tk → valN s d tk = .ok (x, t) → soundJ d x = true
  | d, tk, x, t, hT, h => by
    unfold valN at h
    split at h
    · split at h
      · cases h
      · rename_i d
        split at h
        · cases h
        · rename_i y hy
          cases h
          obtain ⟨h1, h2, h3⟩ := seq_psn (P := fun x => soundJ d x = true) (q := 0) (V := fun k => Lib.validD k.data.toList = true) (fun _ _ h => tokN_ts h) (fun t x hts hx => by
            unfold listPart at hx
            split at hx
            · rename_i z hz
              cases hx
              exact ⟨val_psn d t z.1 z.2 hts hz, rfl, fun k hk => by cases hk⟩
            · cases hx) hy
          rw [Nat.zero_mul] at h2
          have h4 : y.1.1 = [] := List.eq_nil_of_length_eq_zero h2
          rw [soundJ, h4]
          simp only [headJ, List.length_nil, List.all_nil, Bool.true_and]
          simp [noT]
          exact h1
    · split at h
      · split at h
        · cases h
        · rename_i d
          split at h
          · cases h
          · rename_i y hy
            cases h
            obtain ⟨h1, h2, h3⟩ := seq_psn (P := fun x => soundJ d x = true) (q := 1) (V := fun k => Lib.validD k.data.toList = true) (fun _ _ h => tokN_ts h) (fun t x hts hx => by
              unfold objPart at hx
              split at hx
              · rename_i hk5
                split at hx
                · cases hx
                · split at hx
                  · split at hx
                    · cases hx
                    · rename_i t2 h2
                      split at hx
                      · rename_i z hz
                        cases hx
                        exact ⟨val_psn d t2 z.1 z.2 (tokN_ts h2) hz, rfl, fun k hk => by rw [List.mem_singleton] at hk; rw [hk]; exact hts.2.2 hk5⟩
                      · cases hx
                  · cases hx
              · cases hx) hy
            rw [Nat.one_mul] at h2
            rw [soundJ, h2]
            have ha : (y.1.1.all fun u => Lib.validD u.data.toList) = true := by rw [List.all_eq_true]; exact h3
            have hb : (y.1.2.all (soundJ d)) = true := by rw [List.all_eq_true]; exact h1
            rw [ha, hb]
            simp [headJ, noT]
      · split at h
        · rename_i hk
          split at h
          · cases h
          · cases h
            exact leaf_sound hk hT d
        · cases h
theorem parse_sound {x : JV} (h : parseN s = .ok x) : soundJ 32 x = true := by
  unfold parseN at h
  split at h
  · cases h
  · split at h
    · cases h
    · rename_i t1 h1
      split at h
      · cases h
      · rename_i y hy
        split at h
        · cases h
          exact val_psn 32 t1 y.1 y.2 (tokN_ts h1) hy
        · cases h
/-- No text in it is longer than that. -/
def XT (N : Nat) : Nat → JV → Prop
  | 0, _ => True
  | d + 1, .mk _ t ks xs => t.size ≤ N ∧ (∀ k ∈ ks, k.size ≤ N) ∧ ∀ x ∈ xs, XT N d x
theorem said_len : ∀ (m p : Nat) (z : List UInt8 × Nat), saidN s m p = some z → z.1.length ≤ 4 * m
  | 0, _, _, h => by cases h
  | m + 1, p, z, h => by
    rw [saidN] at h
    simp only [Option.bind_eq_some_iff] at h
    obtain ⟨x, hx, h⟩ := h
    split at h
    · cases h; simp
    · split at h
      · simp only [Option.bind_eq_some_iff, Option.map_eq_some_iff] at h
        obtain ⟨y, hy, u, hu, rfl⟩ := h
        have := said_len m _ u hu
        have := (enc_len (r := y.1)).2
        simp only [List.length_append]
        omega
      · split at h
        · cases h
        · simp only [Option.map_eq_some_iff] at h
          obtain ⟨u, hu, rfl⟩ := h
          have := said_len m _ u hu
          have := (enc_len (r := x.1)).2
          simp only [List.length_append]
          omega
def TL (s : List UInt8) (tk : Tk) : Prop := tk.t.size ≤ 4 * (s.length + 1)
theorem tokN_tl {p : Nat} {tk : Tk} (h : tokN s p = .ok tk) : TL s tk := by
  unfold tokN tokL at h
  generalize blankE s p = q at *
  have h0 : ∀ k a q', TL s ⟨k, a, noT, q'⟩ := fun k a q' => Nat.zero_le _
  cases hx : s[q]? with
  | none =>
    rw [hx] at h
    cases h
    exact h0 _ _ _
  | some c =>
    rw [hx] at h
    simp only at h
    unfold tokC at h
    split at h
    · rename_i heq
      injection h with h
      subst h
      split at heq
      · cases heq; exact h0 _ _ _
      · split at heq
        · split at heq
          · rename_i z hz
            cases heq
            have := said_len _ _ _ hz
            exact this
          · cases heq
        · split at heq
          · split at heq
            · cases heq
            · cases heq; exact h0 _ _ _
          · split at heq
            · split at heq
              · cases heq
                have h1 : (runL s numsB q).length ≤ (s.drop q).length := (List.takeWhile_prefix _).length_le
                rw [List.length_drop] at h1
                show (runL s numsB q).length ≤ _
                omega
              · cases heq
            · cases heq
    · cases h
theorem val_xt : ∀ (d : Nat) (tk : Tk) (x : JV) (t : Tk), TL s tk → valN s d tk = .ok (x, t) → XT (4 * (s.length + 1)) (d + 1) x
  | d, tk, x, t, hT, h => by
    unfold valN at h
    split at h
    · split at h
      · cases h
      · rename_i d
        split at h
        · cases h
        · rename_i y hy
          cases h
          obtain ⟨h1, h2, h3⟩ := seq_psn (P := XT (4 * (s.length + 1)) (d + 1)) (q := 0) (T := TL s) (V := fun k => k.size ≤ 4 * (s.length + 1)) (fun _ _ h => tokN_tl h) (fun t x hts hx => by
            unfold listPart at hx
            split at hx
            · rename_i z hz
              cases hx
              exact ⟨val_xt d t z.1 z.2 hts hz, rfl, fun k hk => by cases hk⟩
            · cases hx) hy
          exact ⟨Nat.zero_le _, h3, h1⟩
    · split at h
      · split at h
        · cases h
        · rename_i d
          split at h
          · cases h
          · rename_i y hy
            cases h
            obtain ⟨h1, h2, h3⟩ := seq_psn (P := XT (4 * (s.length + 1)) (d + 1)) (q := 1) (T := TL s) (V := fun k => k.size ≤ 4 * (s.length + 1)) (fun _ _ h => tokN_tl h) (fun t x hts hx => by
              unfold objPart at hx
              split at hx
              · rename_i hk5
                split at hx
                · cases hx
                · split at hx
                  · split at hx
                    · cases hx
                    · rename_i t2 h2
                      split at hx
                      · rename_i z hz
                        cases hx
                        exact ⟨val_xt d t2 z.1 z.2 (tokN_tl h2) hz, rfl, fun k hk => by rw [List.mem_singleton] at hk; rw [hk]; exact hts⟩
                      · cases hx
                  · cases hx
              · cases hx) hy
            exact ⟨Nat.zero_le _, h3, h1⟩
      · split at h
        · split at h
          · cases h
          · cases h
            exact ⟨hT, fun k hk => (by cases hk), fun x hx => by cases hx⟩
        · cases h
theorem tm_of {N M : Nat} (hN : N ≤ maxLen) (hM : M ≤ maxLen) : ∀ (d : Nat) (x : JV), SM N d x → XT M d x → TM d x
  | 0, _, _, _ => trivial
  | d + 1, .mk _ _ _ _, h, h' => ⟨Nat.le_trans h'.1 hM, fun k hk => Nat.le_trans (h'.2.1 k hk) hM, Nat.le_trans h.1 hN, Nat.le_trans h.2.1 hN, fun x hx => tm_of hN hM d x (h.2.2 x hx) (h'.2.2 x hx)⟩
theorem parse_tm {x : JV} (h : parseN s = .ok x) : TM 33 x := by
  have h1 := parse_sm h
  unfold parseN at h
  split at h
  · cases h
  · rename_i hl
    split at h
    · cases h
    · rename_i t1 ht
      split at h
      · cases h
      · rename_i y hy
        split at h
        · cases h
          exact tm_of (by unfold maxLen; omega) (by unfold maxLen; omega) 33 _ h1 (val_xt 32 t1 y.1 y.2 (tokN_tl ht) hy)
        · cases h
end
end Go.Proofs.YtmjooghfghmngaaDoor
