/- Which value a text is, token by token. -/
import Derived.Test.YtmjooghfghmngaaDoorJNext
namespace Go.Proofs.YtmjooghfghmngaaDoor
open Go.RowKit Go.Shelf Go.Lib

/-- A token that a reader has come to: its kind, its first byte, its text, and the place behind it. -/
structure Tk where
  k : Int
  a : Nat
  t : ByteArray
  q : Nat
/-- A value. -/
inductive JV
  | mk (k : Int) (t : ByteArray) (ks : List ByteArray) (xs : List JV)
abbrev RR (α : Type) := Except (Nat × Int) α
def tokN (s : List UInt8) (p : Nat) : RR Tk :=
  match tokL s p with
  | .ok k a t q => .ok ⟨k, a, t, q⟩
  | .bad a => .error (a, 11)
def listPart (val : Tk → RR (JV × Tk)) (tk : Tk) : RR (List ByteArray × JV × Tk) :=
  match val tk with
  | .ok x => .ok ([], x.1, x.2)
  | .error e => .error e
def objPart (s : List UInt8) (val : Tk → RR (JV × Tk)) (tk : Tk) : RR (List ByteArray × JV × Tk) :=
  if tk.k = 5 then
    match tokN s tk.q with
    | .error e => .error e
    | .ok t1 => if t1.k = 58 then
        match tokN s t1.q with
        | .error e => .error e
        | .ok t2 =>
          match val t2 with
          | .ok x => .ok ([tk.t], x.1, x.2)
          | .error e => .error e
      else .error (t1.a, 11)
  else .error (tk.a, 11)
/-- Behind a part: the others, up to the last sign. -/
def moreN (s : List UInt8) (part : Tk → RR (List ByteArray × JV × Tk)) (last : Int) : Nat → Tk → List ByteArray → List JV → RR ((List ByteArray × List JV) × Tk)
  | 0, _, _, _ => .error (0, 0)
  | m + 1, tk, ks, xs =>
    if tk.k = last then .ok ((ks, xs), tk)
    else if tk.k = 44 then
      match tokN s tk.q with
      | .error e => .error e
      | .ok t1 =>
        match part t1 with
        | .error e => .error e
        | .ok x => moreN s part last m x.2.2 (ks ++ x.1) (xs ++ [x.2.1])
    else .error (tk.a, 11)
def firstN (s : List UInt8) (part : Tk → RR (List ByteArray × JV × Tk)) (last : Int) (t1 : Tk) : RR ((List ByteArray × List JV) × Tk) :=
  if t1.k = last then .ok (([], []), t1) else
    match part t1 with
    | .error e => .error e
    | .ok x => moreN s part last (s.length + 1) x.2.2 x.1 [x.2.1]
/-- Behind the first sign: the parts, the last sign, and the token behind it. -/
def seqN (s : List UInt8) (part : Tk → RR (List ByteArray × JV × Tk)) (last : Int) (tk : Tk) : RR ((List ByteArray × List JV) × Tk) :=
  match tokN s tk.q with
  | .error e => .error e
  | .ok t1 =>
    match firstN s part last t1 with
    | .error e => .error e
    | .ok y =>
      match tokN s y.2.q with
      | .error e => .error e
      | .ok t4 => .ok (y.1, t4)
/-- A value that may have so many lists within one another. -/
def valN (s : List UInt8) : Nat → Tk → RR (JV × Tk)
  | d, tk =>
    if tk.k = 91 then
      match d with
      | 0 => .error (tk.a, 12)
      | d + 1 => match seqN s (listPart (valN s d)) 93 tk with
        | .error e => .error e
        | .ok y => .ok (.mk 6 noT y.1.1 y.1.2, y.2)
    else if tk.k = 123 then
      match d with
      | 0 => .error (tk.a, 12)
      | d + 1 => match seqN s (objPart s (valN s d)) 125 tk with
        | .error e => .error e
        | .ok y => .ok (.mk 7 noT y.1.1 y.1.2, y.2)
    else if 1 ≤ tk.k ∧ tk.k ≤ 5 then
      match tokN s tk.q with
      | .error e => .error e
      | .ok t1 => .ok (.mk tk.k tk.t [] [], t1)
    else .error (tk.a, 11)

/-- Whole: the value, or where and why not. -/
def parseN (s : List UInt8) : RR JV :=
  if 262144 < s.length then .error (0, 12)
  else match tokN s 0 with
    | .error e => .error e
    | .ok t1 => match valN s 32 t1 with
      | .error e => .error e
      | .ok y => if y.2.k = 0 then .ok y.1 else .error (y.2.a, 11)

/-- A token is behind where it begins, but for the end. -/
def TW (s : List UInt8) (tk : Tk) : Prop := (tk.k = 0 ∨ tk.a < tk.q) ∧ tk.a ≤ s.length ∧ tk.q ≤ s.length ∧ tk.a ≤ tk.q

theorem saidN_lt {s : List UInt8} : ∀ {m p : Nat} {z : List UInt8 × Nat}, saidN s m p = some z → p < z.2 ∧ (p ≤ s.length → z.2 ≤ s.length)
  | 0, p, z, h => by cases h
  | m + 1, p, z, h => by
    simp only [saidN, Option.bind_eq_some_iff] at h
    obtain ⟨x, hx, h1⟩ := h
    have h2 := charN_lt (r := x.1) (q := x.2) hx
    have h3 := fun hp => (charN_le (r := x.1) (q := x.2) hx hp).1
    split at h1
    · cases h1; exact ⟨h2, h3⟩
    · split at h1
      · simp only [Option.bind_eq_some_iff, Option.map_eq_some_iff] at h1
        obtain ⟨y, hy, u, hu, rfl⟩ := h1
        have h4 := escN_lt (r := y.1) (q := y.2) hy
        have h5 := saidN_lt hu
        exact ⟨by show p < u.2; omega, fun hp => h5.2 (h4.2 (h3 hp))⟩
      · split at h1
        · cases h1
        · simp only [Option.map_eq_some_iff] at h1
          obtain ⟨u, hu, rfl⟩ := h1
          have h5 := saidN_lt hu
          exact ⟨by show p < u.2; omega, fun hp => h5.2 (h3 hp)⟩

theorem runL_pos {s : List UInt8} {p : Nat} {c : UInt8} {cs : List UInt8} (h : s[p]? = some c) (hc : cs.contains c = true) : 0 < (runL s cs p).length := by
  have hlt : p < s.length := by
    rcases Nat.lt_or_ge p s.length with h1 | h1
    · exact h1
    · rw [List.getElem?_eq_none h1] at h; cases h
  have e : s.drop p = c :: s.drop (p + 1) := by
    rw [List.drop_eq_getElem_cons hlt]
    rw [List.getElem?_eq_getElem hlt] at h
    cases h; rfl
  unfold runL
  rw [e, List.takeWhile_cons, if_pos hc]
  simp

theorem tokN_tw {s : List UInt8} {p : Nat} {tk : Tk} (hp : p ≤ s.length) (h : tokN s p = .ok tk) : p ≤ tk.a ∧ TW s tk := by
  have hb : blankE s p ≤ s.length := runL_len s blankB hp
  have hpb : p ≤ blankE s p := by unfold blankE; omega
  unfold tokN tokL at h
  generalize blankE s p = q at *
  cases hx : s[q]? with
  | none =>
    rw [hx] at h
    cases h
    exact ⟨hpb, .inl rfl, hb, hb, Nat.le_refl _⟩
  | some c =>
    rw [hx] at h
    simp only at h
    have hlt : q < s.length := by
      rcases Nat.lt_or_ge q s.length with h1 | h1
      · exact h1
      · rw [List.getElem?_eq_none h1] at hx; cases hx
    unfold tokC at h
    split at h
    · rename_i heq
      injection h with h
      subst h
      split at heq
      · cases heq
        exact ⟨hpb, .inr (by show q < q + 1; omega), hb, by show q + 1 ≤ _; omega, by show q ≤ q + 1; omega⟩
      · split at heq
        · split at heq
          · rename_i z hz
            cases heq
            have := saidN_lt hz
            exact ⟨hpb, .inr (by show q < z.2; omega), hb, this.2 (by omega), by show q ≤ z.2; omega⟩
          · cases heq
        · split at heq
          · rename_i hlo
            have h1 := runL_pos hx hlo
            have h2 := runL_len s lowB hb
            split at heq
            · cases heq
            · cases heq
              exact ⟨hpb, .inr (by show q < q + _; omega), hb, h2, by show q ≤ q + _; omega⟩
          · split at heq
            · rename_i hnu
              have h1 := runL_pos hx hnu
              have h2 := runL_len s numsB hb
              split at heq
              · cases heq
                exact ⟨hpb, .inr (by show q < q + _; omega), hb, h2, by show q ≤ q + _; omega⟩
              · cases heq
            · cases heq
    · cases h

/-- A part that is read goes on behind where it began. -/
def Fwd {α : Type} (s : List UInt8) (tk : Tk) (r : RR α) (at' : α → Tk) : Prop := ∀ x, r = .ok x → tk.q ≤ (at' x).a ∧ TW s (at' x)
theorem listPart_fwd {s : List UInt8} {val : Tk → RR (JV × Tk)} {tk : Tk} (h : Fwd s tk (val tk) (·.2)) : Fwd s tk (listPart val tk) (·.2.2) := fun x hx => by
  unfold listPart at hx
  split at hx
  · rename_i y hy
    cases hx
    exact h y hy
  · cases hx
theorem objPart_fwd {s : List UInt8} {val : Tk → RR (JV × Tk)} {tk : Tk} (hT : TW s tk) (h : ∀ t, TW s t → Fwd s t (val t) (·.2)) : Fwd s tk (objPart s val tk) (·.2.2) := fun x hx => by
  unfold objPart at hx
  split at hx
  · split at hx
    · cases hx
    · rename_i t1 h1
      have w1 := tokN_tw hT.2.2.1 h1
      split at hx
      · split at hx
        · cases hx
        · rename_i t2 h2
          have w2 := tokN_tw w1.2.2.2.1 h2
          split at hx
          · rename_i y hy
            cases hx
            have w3 := h t2 w2.2 y hy
            refine ⟨?_, w3.2⟩
            have e1 := w1.1
            have e2 := w2.1
            have e3 := w3.1
            have f1 := w1.2.2.2.2
            have f2 := w2.2.2.2.2
            show tk.q ≤ y.2.a
            simp only at e3
            omega
          · cases hx
      · cases hx
  · cases hx
theorem moreN_fwd {s : List UInt8} {part : Tk → RR (List ByteArray × JV × Tk)} {last : Int} (hp : ∀ t, TW s t → Fwd s t (part t) (·.2.2)) : ∀ (m : Nat) (tk : Tk) (ks : List ByteArray) (xs : List JV), TW s tk → ∀ x, moreN s part last m tk ks xs = .ok x → tk.a ≤ x.2.a ∧ TW s x.2
  | 0, _, _, _, _, x, h => by cases h
  | m + 1, tk, ks, xs, hT, x, h => by
    unfold moreN at h
    split at h
    · cases h; exact ⟨Nat.le_refl _, hT⟩
    · split at h
      · split at h
        · cases h
        · rename_i t1 h1
          have w1 := tokN_tw hT.2.2.1 h1
          split at h
          · cases h
          · rename_i y hy
            have w2 := hp t1 w1.2 y hy
            have w3 := moreN_fwd hp m y.2.2 _ _ w2.2 x h
            have e1 := w1.1
            have e2 : t1.q ≤ y.2.2.a := w2.1
            have e3 := w3.1
            have f0 := hT.2.2.2
            have f1 := w1.2.2.2.2
            exact ⟨by omega, w3.2⟩
      · cases h
theorem seqN_fwd {s : List UInt8} {part : Tk → RR (List ByteArray × JV × Tk)} {last : Int} (hp : ∀ t, TW s t → Fwd s t (part t) (·.2.2)) {tk : Tk} (hT : TW s tk) : Fwd s tk (seqN s part last tk) (·.2) := fun x h => by
  unfold seqN at h
  split at h
  · cases h
  · rename_i t1 h1
    have w1 := tokN_tw hT.2.2.1 h1
    split at h
    · cases h
    · rename_i y hy
      have w2 : t1.a ≤ y.2.a ∧ TW s y.2 := by
        unfold firstN at hy
        split at hy
        · cases hy; exact ⟨Nat.le_refl _, w1.2⟩
        · split at hy
          · cases hy
          · rename_i z hz
            have w3 := hp t1 w1.2 z hz
            have w4 := moreN_fwd hp _ z.2.2 _ _ w3.2 y hy
            have e1 : t1.q ≤ z.2.2.a := w3.1
            have e2 := w4.1
            have f1 := w1.2.2.2.2
            exact ⟨by omega, w4.2⟩
      split at h
      · cases h
      · rename_i t4 h4
        cases h
        have w5 := tokN_tw w2.2.2.2.1 h4
        have e1 := w1.1
        have e2 := w2.1
        have e3 := w5.1
        have f1 := w2.2.2.2.2
        refine ⟨?_, w5.2⟩
        show tk.q ≤ t4.a
        omega
theorem valN_fwd {s : List UInt8} : ∀ (d : Nat) (tk : Tk), TW s tk → Fwd s tk (valN s d tk) (·.2)
  | d, tk, hT => fun x h => by
    unfold valN at h
    split at h
    · split at h
      · cases h
      · rename_i d
        split at h
        · cases h
        · rename_i y hy
          cases h
          exact seqN_fwd (fun t ht => listPart_fwd (valN_fwd d t ht)) hT y hy
    · split at h
      · split at h
        · cases h
        · rename_i d
          split at h
          · cases h
          · rename_i y hy
            cases h
            exact seqN_fwd (fun t ht => objPart_fwd ht (fun u hu => valN_fwd d u hu)) hT y hy
      · split at h
        · split at h
          · cases h
          · rename_i t1 h1
            cases h
            exact tokN_tw hT.2.2.1 h1
        · cases h
end Go.Proofs.YtmjooghfghmngaaDoor
