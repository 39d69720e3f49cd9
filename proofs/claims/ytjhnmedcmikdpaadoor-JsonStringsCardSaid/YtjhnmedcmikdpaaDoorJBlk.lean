/- Blanks around a text, and a list of two texts with blanks around them. -/
import Derived.Test.YtjhnmedcmikdpaaDoorJSim
namespace Go.Proofs.YtjhnmedcmikdpaaDoor
open Go.RowKit Go.Shelf Go.Lib

theorem tok_skip {s v r : List UInt8} {p : Nat} (hv : ∀ c ∈ v, blankB.contains c = true) (h : s.drop p = v ++ r) : tokN s p = tokN s (p + v.length) := by
  have h2 : s.drop (p + v.length) = r := by rw [← List.drop_drop, h, List.drop_left]
  have e : blankE s p = blankE s (p + v.length) := by
    unfold blankE runL
    rw [h, h2, takeWhile_whole (by rw [takeAll hv]), List.length_append]
    omega
  rw [tok_q e, tok_q rfl]
theorem tok_sign {s : List UInt8} {p : Nat} {c : UInt8} (h : s[p]? = some c) (hc : signB.contains c = true) : tokN s p = .ok ⟨((c.toNat : Nat) : Int), p, noT, p + 1⟩ := by
  have hb : blankB.contains c = false := by
    have hh : ∀ n : Nat, n < 256 → signB.contains (UInt8.ofNat n) = true → blankB.contains (UInt8.ofNat n) = false := by decide +kernel
    have := hh c.toNat c.toNat_lt
    rw [UInt8.ofNat_toNat] at this
    exact this hc
  unfold tokN
  rw [tok_at h hb, tokC, if_pos hc]
theorem blank_stop {c : UInt8} (h : blankB.contains c = true) : stopB.contains c = true := by
  have hh : ∀ n : Nat, n < 256 → blankB.contains (UInt8.ofNat n) = true → stopB.contains (UInt8.ofNat n) = true := by decide +kernel
  have := hh c.toNat c.toNat_lt
  rw [UInt8.ofNat_toNat] at this
  exact this h
theorem start_tw {a : List UInt8} {t : Tk} (h : tokN a 0 = .ok t) : TW a t := (tokN_tw (Nat.zero_le _) h).2

theorem blanks_one {a u : List UInt8} (hu : ∀ c ∈ u, blankB.contains c = true) (ha : a.length ≤ 262144) (hs : (u ++ a ++ u).length ≤ 262144) :
    (∀ x, parseN a = .ok x → parseN (u ++ a ++ u) = .ok x) ∧ (∀ p e, parseN a = .error (p, e) → ∃ p', parseN (u ++ a ++ u) = .error (p', e)) := by
  obtain ⟨s, hsd⟩ : ∃ s, s = u ++ a ++ u := ⟨_, rfl⟩
  rw [← hsd] at hs ⊢
  have hd0 : s.drop u.length = a ++ u := by rw [hsd, List.append_assoc, List.drop_left]
  have hl : Lies a s u.length u := ⟨hd0, fun c r e => blank_stop (hu c (by rw [e]; simp)), by rw [hsd]; simp⟩
  have hlen := hl.len
  have hE : tokN s (u.length + a.length) = .ok ⟨0, s.length, noT, s.length⟩ := by
    rw [tok_skip (v := u) (r := []) hu (by rw [hl.at (Nat.le_refl _), List.drop_length]; simp), tok_end s _ (by omega)]
    rw [← hlen]
  have hc : Ctx a s u.length ⟨0, s.length, noT, s.length⟩ False := ⟨⟨u, hl, fun _ => hu⟩, hE, fun _ => rfl⟩
  have h0 : tokN s 0 = tokN s (u.length + 0) := by
    rw [tok_skip (v := u) (r := a ++ u) hu (by rw [hsd, List.drop_zero, List.append_assoc])]
    simp
  have ht := hc.tok (Nat.zero_le a.length)
  have hpa : parseN a = match tokN a 0 with | .error e => .error e | .ok t1 => match valN a 32 t1 with | .error e => .error e | .ok y => if y.2.k = 0 then .ok y.1 else .error (y.2.a, 11) := by
    unfold parseN; rw [if_neg (by omega)]; cases tokN a 0 <;> rfl
  have hps : parseN s = match tokN s 0 with | .error e => .error e | .ok t1 => match valN s 32 t1 with | .error e => .error e | .ok y => if y.2.k = 0 then .ok y.1 else .error (y.2.a, 11) := by
    unfold parseN; rw [if_neg (by omega)]; cases tokN s 0 <;> rfl
  rw [hpa, hps, h0]
  cases h1 : tokN a 0 with
  | error x =>
    refine ⟨fun x hx => (by cases hx), fun p e hx => ?_⟩
    cases hx
    obtain ⟨q, hq⟩ := ht.2 (fun h => h) _ _ h1
    rw [hq]; exact ⟨_, rfl⟩
  | ok t =>
    obtain ⟨t', h2, hs2⟩ := ht.1 t h1
    rw [h2]
    have hv := val_sim hc 32 32 (Nat.le_refl _) (fun _ => rfl) t t' (start_tw h1) hs2
    simp only
    cases h3 : valN a 32 t with
    | error x =>
      refine ⟨fun x hx => (by cases hx), fun p e hx => ?_⟩
      cases hx
      obtain ⟨q, hq⟩ := hv.2 (fun h => h) _ _ h3
      rw [hq]; exact ⟨_, rfl⟩
    | ok y =>
      rcases hv.1 y.1 y.2 h3 with ⟨u', h4, hs4⟩ | ⟨hB, _⟩
      · rw [h4]
        have hk := (hc.kind hs4).2 (fun h => h)
        simp only
        rw [hk]
        by_cases h5 : y.2.k = 0
        · rw [if_pos h5, if_pos h5]
          exact ⟨fun x hx => hx, fun p e hx => (by cases hx)⟩
        · rw [if_neg h5, if_neg h5]
          refine ⟨fun x hx => (by cases hx), fun p e hx => ?_⟩
          cases hx
          exact ⟨_, rfl⟩
      · exact hB.elim

/-- What a text that is a value gives: its first token, the value, the end. -/
theorem parse_parts {a : List UInt8} {x : JV} (h : parseN a = .ok x) : ∃ t t1, tokN a 0 = .ok t ∧ valN a 32 t = .ok (x, t1) ∧ t1.k = 0 ∧ t.k ≠ 0 ∧ t.k ≠ 93 := by
  unfold parseN at h
  split at h
  · cases h
  · split at h
    · cases h
    · rename_i t ht
      split at h
      · cases h
      · rename_i y hy
        split at h
        · rename_i hk
          cases h
          refine ⟨t, y.2, ht, hy, hk, fun h0 => ?_, fun h0 => ?_⟩
          · obtain ⟨e, he⟩ := val_zero (s := a) (d := 32) h0
            rw [he] at hy; cases hy
          · unfold valN at hy
            rw [if_neg (by rw [h0]; decide), if_neg (by rw [h0]; decide), if_neg (by rw [h0]; decide)] at hy
            cases hy
        · cases h

theorem blanks_two {a b u : List UInt8} {x y : JV} (hu : ∀ c ∈ u, blankB.contains c = true) (ha : parseN a = .ok x) (hb : parseN b = .ok y) {s : List UInt8}
    (hs : s = u ++ 91 :: (u ++ (a ++ (u ++ 44 :: (u ++ (b ++ (u ++ [93]))))))) (hl : s.length ≤ 262144) :
    parseN s = .ok (.mk 6 noT [] [x, y]) ∨ ∃ p, parseN s = .error (p, 12) := by
  obtain ⟨ta, ta1, a1, a2, a3, a4, a5⟩ := parse_parts ha
  obtain ⟨tb, tb1, b1, b2, b3, b4, b5⟩ := parse_parts hb
  obtain ⟨m, hm⟩ : ∃ m, m = u.length := ⟨_, rfl⟩
  -- the places
  have d0 : s.drop m = 91 :: (u ++ (a ++ (u ++ 44 :: (u ++ (b ++ (u ++ [93])))))) := by rw [hs, hm, List.drop_left]
  have d1 : s.drop (m + 1) = u ++ (a ++ (u ++ 44 :: (u ++ (b ++ (u ++ [93]))))) := by rw [← List.drop_drop, d0]; rfl
  have d2 : s.drop (m + 1 + m) = a ++ (u ++ 44 :: (u ++ (b ++ (u ++ [93])))) := by rw [← List.drop_drop, d1, hm, List.drop_left]
  have d3 : s.drop (m + 1 + m + a.length) = u ++ 44 :: (u ++ (b ++ (u ++ [93]))) := by rw [← List.drop_drop, d2, List.drop_left]
  have d4 : s.drop (m + 1 + m + a.length + m) = 44 :: (u ++ (b ++ (u ++ [93]))) := by rw [← List.drop_drop, d3, hm, List.drop_left]
  have d5 : s.drop (m + 1 + m + a.length + m + 1) = u ++ (b ++ (u ++ [93])) := by rw [← List.drop_drop, d4]; rfl
  have d6 : s.drop (m + 1 + m + a.length + m + 1 + m) = b ++ (u ++ [93]) := by rw [← List.drop_drop, d5, hm, List.drop_left]
  have d7 : s.drop (m + 1 + m + a.length + m + 1 + m + b.length) = u ++ [93] := by rw [← List.drop_drop, d6, List.drop_left]
  have d8 : s.drop (m + 1 + m + a.length + m + 1 + m + b.length + m) = [93] := by rw [← List.drop_drop, d7, hm, List.drop_left]
  have hlen : s.length = m + 1 + m + a.length + m + 1 + m + b.length + m + 1 := by
    rw [hs]; simp only [List.length_append, List.length_cons, List.length_nil, ← hm]; omega
  have g0 : s[m]? = some 91 := by have := List.getElem?_drop (xs := s) (i := m) (j := 0); rw [d0] at this; simpa using this.symm
  have g4 : s[m + 1 + m + a.length + m]? = some 44 := by have := List.getElem?_drop (xs := s) (i := m + 1 + m + a.length + m) (j := 0); rw [d4] at this; simpa using this.symm
  have g8 : s[m + 1 + m + a.length + m + 1 + m + b.length + m]? = some 93 := by have := List.getElem?_drop (xs := s) (i := m + 1 + m + a.length + m + 1 + m + b.length + m) (j := 0); rw [d8] at this; simpa using this.symm
  have t0 : tokN s 0 = .ok ⟨91, m, noT, m + 1⟩ := by
    rw [tok_skip (v := u) (p := 0) hu (by rw [List.drop_zero]; exact hs), Nat.zero_add, ← hm, tok_sign g0 (by decide)]
    rfl
  have t1 : tokN s (m + 1) = tokN s (m + 1 + m) := by rw [tok_skip (v := u) (p := m + 1) hu d1, ← hm]
  have t3 : tokN s (m + 1 + m + a.length) = .ok ⟨44, m + 1 + m + a.length + m, noT, m + 1 + m + a.length + m + 1⟩ := by
    rw [tok_skip (v := u) (p := m + 1 + m + a.length) hu d3, ← hm, tok_sign g4 (by decide)]
    rfl
  have t5 : tokN s (m + 1 + m + a.length + m + 1) = tokN s (m + 1 + m + a.length + m + 1 + m) := by rw [tok_skip (v := u) (p := m + 1 + m + a.length + m + 1) hu d5, ← hm]
  have t7 : tokN s (m + 1 + m + a.length + m + 1 + m + b.length) = .ok ⟨93, m + 1 + m + a.length + m + 1 + m + b.length + m, noT, m + 1 + m + a.length + m + 1 + m + b.length + m + 1⟩ := by
    rw [tok_skip (v := u) (p := m + 1 + m + a.length + m + 1 + m + b.length) hu d7, ← hm, tok_sign g8 (by decide)]
    rfl
  have t9 : tokN s (m + 1 + m + a.length + m + 1 + m + b.length + m + 1) = .ok ⟨0, m + 1 + m + a.length + m + 1 + m + b.length + m + 1, noT, m + 1 + m + a.length + m + 1 + m + b.length + m + 1⟩ := tok_end s _ (by omega)
  have hLa : Lies a s (m + 1 + m) (u ++ 44 :: (u ++ (b ++ (u ++ [93])))) := ⟨d2, fun c r e => by
    cases hu' : u with
    | nil => rw [hu'] at e; cases e; decide
    | cons v w => rw [hu'] at e; cases e; exact blank_stop (hu c (by rw [hu']; simp)), by omega⟩
  have hLb : Lies b s (m + 1 + m + a.length + m + 1 + m) (u ++ [93]) := ⟨d6, fun c r e => by
    cases hu' : u with
    | nil => rw [hu'] at e; cases e; decide
    | cons v w => rw [hu'] at e; cases e; exact blank_stop (hu c (by rw [hu']; simp)), by omega⟩
  have hCa : Ctx a s (m + 1 + m) _ True := ⟨⟨_, hLa, fun h => absurd trivial h⟩, t3, fun h => absurd trivial h⟩
  have hCb : Ctx b s (m + 1 + m + a.length + m + 1 + m) _ True := ⟨⟨_, hLb, fun h => absurd trivial h⟩, t7, fun h => absurd trivial h⟩
  obtain ⟨ua, ua1, hsa⟩ := (hCa.tok (Nat.zero_le a.length)).1 ta a1
  obtain ⟨ub, ub1, hsb⟩ := (hCb.tok (Nat.zero_le b.length)).1 tb b1
  rw [Nat.add_zero] at ua1 ub1
  have ka := (hCa.kind hsa).1 a4
  have kb := (hCb.kind hsb).1 b4
  have va := (val_sim hCa 32 31 (by decide) (fun h => absurd trivial h) ta ua (start_tw a1) hsa).1 x ta1 a2
  have vb := (val_sim hCb 32 31 (by decide) (fun h => absurd trivial h) tb ub (start_tw b1) hsb).1 y tb1 b2
  have hps : parseN s = match valN s 32 ⟨91, m, noT, m + 1⟩ with | .error e => .error e | .ok y => if y.2.k = 0 then .ok y.1 else .error (y.2.a, 11) := by
    unfold parseN; rw [if_neg (by omega), t0]
    rfl
  have hv : valN s 32 ⟨91, m, noT, m + 1⟩ = match seqN s (listPart (valN s 31)) 93 ⟨91, m, noT, m + 1⟩ with | .error e => .error e | .ok y => .ok (.mk 6 noT y.1.1 y.1.2, y.2) := by
    rw [valN, if_pos rfl]
    cases seqN s (listPart (valN s 31)) 93 ⟨91, m, noT, m + 1⟩ <;> rfl
  have hq : seqN s (listPart (valN s 31)) 93 ⟨91, m, noT, m + 1⟩ = .ok (([], [x, y]), ⟨0, m + 1 + m + a.length + m + 1 + m + b.length + m + 1, noT, m + 1 + m + a.length + m + 1 + m + b.length + m + 1⟩) ∨ ∃ p, seqN s (listPart (valN s 31)) 93 ⟨91, m, noT, m + 1⟩ = .error (p, 12) := by
    unfold seqN
    rw [show (⟨91, m, noT, m + 1⟩ : Tk).q = m + 1 from rfl, t1, ua1]
    simp only
    unfold firstN
    rw [if_neg (show ¬ ua.k = 93 by rw [ka]; exact a5)]
    have pa : listPart (valN s 31) ua = (match valN s 31 ua with | .ok x => .ok ([], x.1, x.2) | .error e => .error e) := by unfold listPart; cases valN s 31 ua <;> rfl
    rw [pa]
    rcases va with ⟨w, hw, hsw⟩ | ⟨_, p, hw⟩
    · rw [hw]
      have ew : w = ⟨44, m + 1 + m + a.length + m, noT, m + 1 + m + a.length + m + 1⟩ := by
        rcases hsw with ⟨h1, _⟩ | ⟨_, h2⟩
        · exact absurd a3 h1
        · exact h2
      simp only
      rw [ew, moreN, if_neg (show ¬ (44 : Int) = 93 by decide), if_pos rfl]
      rw [show (⟨44, m + 1 + m + a.length + m, noT, m + 1 + m + a.length + m + 1⟩ : Tk).q = m + 1 + m + a.length + m + 1 from rfl, t5, ub1]
      simp only
      have pb : listPart (valN s 31) ub = (match valN s 31 ub with | .ok x => .ok ([], x.1, x.2) | .error e => .error e) := by unfold listPart; cases valN s 31 ub <;> rfl
      rw [pb]
      rcases vb with ⟨w2, hw2, hsw2⟩ | ⟨_, p, hw2⟩
      · rw [hw2]
        have ew2 : w2 = ⟨93, m + 1 + m + a.length + m + 1 + m + b.length + m, noT, m + 1 + m + a.length + m + 1 + m + b.length + m + 1⟩ := by
          rcases hsw2 with ⟨h1, _⟩ | ⟨_, h2⟩
          · exact absurd b3 h1
          · exact h2
        simp only
        obtain ⟨k, hk⟩ : ∃ k, s.length = k + 1 := ⟨_, hlen⟩
        rw [ew2, hk, moreN, if_pos rfl]
        simp only
        rw [t9]
        exact .inl rfl
      · rw [hw2]
        exact .inr ⟨p, rfl⟩
    · rw [hw]
      exact .inr ⟨p, rfl⟩
  rw [hps, hv]
  rcases hq with hq | ⟨p, hq⟩
  · rw [hq]; exact .inl rfl
  · rw [hq]; exact .inr ⟨p, rfl⟩
end Go.Proofs.YtjhnmedcmikdpaaDoor
