/- What is written between quotes says what it was made of. -/
import Derived.Test.YtmjooghfghmngaaDoorJBlk
import Derived.Test.YtmjooghfghmngaaDoorJPrn
import Derived.Lib.ValidLaws
import Derived.Lib.MapLaws
namespace Go.Proofs.YtmjooghfghmngaaDoor
open Go.RowKit Go.Shelf Go.Lib

/-- A character that is one by itself. -/
def Good (r : Nat) : Prop := r < 55296 ∨ (57344 ≤ r ∧ r ≤ 1114111)
theorem byte_nat (z : Nat) (h : z < 256) : ((((z : Nat) : Int).toNat.toUInt8).toNat) = z := by
  simp [Nat.toUInt8, UInt8.toNat_ofNat']
  omega
theorem enc_z (r : Nat) (l : List Nat) (h : Lib.encodeRuneZ (r : Int) = l.map fun x => ((x : Nat) : Int)) : Lib.encodeRune (r : Int) = l.map fun x => (((x : Nat) : Int).toNat.toUInt8) := by
  unfold Lib.encodeRune
  rw [h, List.map_map]
  rfl
theorem dec_enc {r : Nat} (h : Good r) (rest : List UInt8) : runeL (Lib.encodeRune (r : Int) ++ rest) = (r, (Lib.encodeRune (r : Int)).length) := by
  unfold Good at h
  by_cases c1 : r < 128
  · rw [enc_z r [r] (by rw [Lib.encodeRuneZ_one (by omega) (by omega)]; rfl), runeL_at (by simp)]
    simp only [List.map_cons, List.map_nil, List.cons_append, List.nil_append, List.getD_cons_zero, List.length_cons, List.length_nil, byte_nat r (by omega)]
    unfold Lib.decodeN
    rw [if_pos c1]
  by_cases c2 : r < 2048
  · rw [enc_z r [192 + r / 64, 128 + r % 64] (by rw [Lib.encodeRuneZ_two (by omega) (by omega)]; simp), runeL_at (by simp)]
    simp only [List.map_cons, List.map_nil, List.cons_append, List.nil_append, List.getD_cons_zero, List.getD_cons_succ, List.length_cons, List.length_nil, byte_nat (192 + r / 64) (by omega), byte_nat (128 + r % 64) (by omega)]
    unfold Lib.decodeN
    rw [if_neg (by omega), if_pos ⟨by omega, by omega, by omega⟩, if_pos (by omega)]
    congr 1
    omega
  by_cases c3 : r < 65536
  · rw [enc_z r [224 + r / 4096, 128 + r / 64 % 64, 128 + r % 64] (by rw [Lib.encodeRuneZ_three (by omega)]; simp), runeL_at (by simp)]
    simp only [List.map_cons, List.map_nil, List.cons_append, List.nil_append, List.getD_cons_zero, List.getD_cons_succ, List.length_cons, List.length_nil, byte_nat (224 + r / 4096) (by omega), byte_nat (128 + r / 64 % 64) (by omega), byte_nat (128 + r % 64) (by omega)]
    unfold Lib.decodeN
    rw [if_neg (by omega), if_neg (by omega), if_pos ⟨by omega, ⟨by omega, by omega⟩, by omega, by omega⟩, if_pos (by omega)]
    congr 1
    omega
  · rw [enc_z r [240 + r / 262144, 128 + r / 4096 % 64, 128 + r / 64 % 64, 128 + r % 64] (by rw [Lib.encodeRuneZ_four (by omega) (by omega)]; simp), runeL_at (by simp)]
    simp only [List.map_cons, List.map_nil, List.cons_append, List.nil_append, List.getD_cons_zero, List.getD_cons_succ, List.length_cons, List.length_nil, byte_nat (240 + r / 262144) (by omega), byte_nat (128 + r / 4096 % 64) (by omega), byte_nat (128 + r / 64 % 64) (by omega), byte_nat (128 + r % 64) (by omega)]
    unfold Lib.decodeN
    rw [if_neg (by omega), if_neg (by omega), if_neg (by omega), if_pos ⟨by omega, ⟨by omega, by omega⟩, ⟨by omega, by omega⟩, by omega, by omega⟩, if_pos (by omega)]
    congr 1
    omega
theorem enc_high2 {r : Nat} (h : 128 ≤ r) : ∀ c ∈ Lib.encodeRune (r : Int), 128 ≤ c.toNat := by
  obtain ⟨R, hR, _, _, h3⟩ := enc_high (r : Int) (by omega)
  rw [enc_rune] at hR
  intro c hc
  apply h3
  rw [← hR]
  exact hc
theorem enc_len {r : Nat} : 1 ≤ (Lib.encodeRune (r : Int)).length ∧ (Lib.encodeRune (r : Int)).length ≤ 4 := by
  have := Lib.encodeRuneZ_length (r : Int)
  unfold Lib.encodeRune
  rw [List.length_map]
  exact this
theorem enc_one {r : Nat} (h : r < 128) : Lib.encodeRune (r : Int) = [UInt8.ofNat r] := by
  rw [enc_z r [r] (by rw [Lib.encodeRuneZ_one (by omega) (by omega)]; rfl)]
  simp

/-- The bytes p say the character r, wherever they stand in a string. -/
def Says (p : List UInt8) (r : Nat) : Prop := ∀ (s pre rest : List UInt8) (m : Nat), s = pre ++ (p ++ rest) → saidN s (m + 1) pre.length = (saidN s m (pre.length + p.length)).map fun z => (Lib.encodeRune (r : Int) ++ z.1, z.2)
theorem char_at {s pre rest : List UInt8} {r : Nat} (h : Good r) (hs : s = pre ++ (Lib.encodeRune (r : Int) ++ rest)) : charN s pre.length = some (r, pre.length + (Lib.encodeRune (r : Int)).length) := by
  have h1 : runeAt s pre.length = (r, (Lib.encodeRune (r : Int)).length) := by
    show runeL (s.drop pre.length) = _
    rw [hs, List.drop_left]
    exact dec_enc h rest
  have hl := enc_len (r := r)
  unfold charN
  rw [h1, if_neg]
  intro ⟨a, b⟩
  simp only at a b
  rw [a] at b
  have : (Lib.encodeRune ((65533 : Nat) : Int)).length = 3 := by kernel_rfl
  omega
theorem says_plain {r : Nat} (h : Good r) (h1 : 32 ≤ r) (h2 : r ≠ 34) (h3 : r ≠ 92) : Says (Lib.encodeRune (r : Int)) r := fun s pre rest m hs => by
  rw [saidN, char_at h hs]
  simp only [Option.bind_some]
  rw [if_neg h2, if_neg h3, if_neg (by omega)]
theorem char_one {s pre rest : List UInt8} {c : UInt8} (hc : c.toNat < 128) (hs : s = pre ++ (c :: rest)) : charN s pre.length = some (c.toNat, pre.length + 1) :=
  char_low (r := rest) (by rw [hs, List.drop_left]) hc
theorem says_esc {c : UInt8} {r : Nat} (hc : c.toNat < 128) (he : ∀ (s : List UInt8) (p q : Nat), charN s p = some (c.toNat, q) → escN s p = some (r, q)) : Says [92, c] r := fun s pre rest m hs => by
  have h1 : charN s pre.length = some (92, pre.length + 1) := char_one (c := 92) (rest := c :: rest) (by decide) (by rw [hs]; rfl)
  have h2 : charN s (pre.length + 1) = some (c.toNat, pre.length + 1 + 1) := by
    have := char_one (s := s) (pre := pre ++ [92]) (rest := rest) hc (by rw [hs]; simp)
    simpa using this
  rw [saidN, h1]
  simp only [Option.bind_some]
  rw [if_neg (by decide), if_pos trivial, he s _ _ h2]
  simp only [Option.bind_some, List.length_cons, List.length_nil]
theorem esc_same {c : Nat} (h : c = 34 ∨ c = 92 ∨ c = 47) (s : List UInt8) (p q : Nat) (hc : charN s p = some (c, q)) : escN s p = some (c, q) := by
  unfold escN; rw [hc, Option.bind_some, if_pos h]
/-- Four hexadecimal digits that say a character below 128. -/
theorem says_hex {h1 h2 : UInt8} {d1 d2 : Nat} (l1 : h1.toNat < 128) (l2 : h2.toNat < 128) (v1 : hexV h1.toNat = some d1) (v2 : hexV h2.toNat = some d2) (hr : d1 * 16 + d2 < 128) : Says [92, 117, 48, 48, h1, h2] (d1 * 16 + d2) := fun s pre rest m hs => by
  have e0 : charN s pre.length = some (92, pre.length + 1) := char_one (c := 92) (rest := 117 :: 48 :: 48 :: h1 :: h2 :: rest) (by decide) (by rw [hs]; rfl)
  have e1 : charN s (pre.length + 1) = some (117, pre.length + 1 + 1) := by
    have := char_one (s := s) (pre := pre ++ [92]) (c := 117) (rest := 48 :: 48 :: h1 :: h2 :: rest) (by decide) (by rw [hs]; simp)
    simpa using this
  have e2 : charN s (pre.length + 1 + 1) = some (48, pre.length + 1 + 1 + 1) := by
    have := char_one (s := s) (pre := pre ++ [92, 117]) (c := 48) (rest := 48 :: h1 :: h2 :: rest) (by decide) (by rw [hs]; simp)
    simpa using this
  have e3 : charN s (pre.length + 1 + 1 + 1) = some (48, pre.length + 1 + 1 + 1 + 1) := by
    have := char_one (s := s) (pre := pre ++ [92, 117, 48]) (c := 48) (rest := h1 :: h2 :: rest) (by decide) (by rw [hs]; simp)
    simpa using this
  have e4 : charN s (pre.length + 1 + 1 + 1 + 1) = some (h1.toNat, pre.length + 1 + 1 + 1 + 1 + 1) := by
    have := char_one (s := s) (pre := pre ++ [92, 117, 48, 48]) (c := h1) (rest := h2 :: rest) l1 (by rw [hs]; simp)
    simpa using this
  have e5 : charN s (pre.length + 1 + 1 + 1 + 1 + 1) = some (h2.toNat, pre.length + 1 + 1 + 1 + 1 + 1 + 1) := by
    have := char_one (s := s) (pre := pre ++ [92, 117, 48, 48, h1]) (c := h2) (rest := rest) l2 (by rw [hs]; simp)
    simpa using this
  have hz : hexV 48 = some 0 := by decide +kernel
  have hu : unitN s 4 (pre.length + 1 + 1) 0 = some (d1 * 16 + d2, pre.length + 1 + 1 + 1 + 1 + 1 + 1) := by
    rw [unitN, e2, Option.bind_some, hz, Option.bind_some, unitN, e3, Option.bind_some, hz, Option.bind_some, unitN, e4, Option.bind_some, v1, Option.bind_some, unitN, e5, Option.bind_some, v2, Option.bind_some, unitN]
    simp
  have hv : Lib.validRune ((d1 * 16 + d2 : Nat) : Int) = true := by
    unfold Lib.validRune
    simp
    omega
  have hco : codedN s (pre.length + 1 + 1) = some (d1 * 16 + d2, pre.length + 1 + 1 + 1 + 1 + 1 + 1) := by
    unfold codedN
    rw [hu, Option.bind_some, if_pos hv]
  have hes : escN s (pre.length + 1) = some (d1 * 16 + d2, pre.length + 1 + 1 + 1 + 1 + 1 + 1) := by
    unfold escN
    rw [e1, Option.bind_some]
    simp only
    rw [if_neg (by decide), if_neg (by decide), if_neg (by decide), if_neg (by decide), if_neg (by decide), if_neg (by decide), if_pos trivial, hco]
  rw [saidN, e0]
  simp only [Option.bind_some]
  rw [if_neg (by decide), if_pos trivial, hes]
  simp only [Option.bind_some, List.length_cons, List.length_nil]

/-- Pieces that say characters, one after the other, up to the quote. -/
theorem says_all : ∀ (ps : List (List UInt8 × Nat)), (∀ p ∈ ps, Says p.1 p.2) → ∀ (s pre rest : List UInt8), s = pre ++ (ps.flatMap (·.1) ++ 34 :: rest) →
    saidN s (ps.length + 1) pre.length = some (ps.flatMap fun p => Lib.encodeRune (p.2 : Int), pre.length + (ps.flatMap (·.1)).length + 1)
  | [], _, s, pre, rest, hs => by
    have h1 : charN s pre.length = some (34, pre.length + 1) := char_one (c := 34) (rest := rest) (by decide) (by rw [hs]; rfl)
    rw [List.length_nil, saidN, h1]
    simp
  | p :: ps, h, s, pre, rest, hs => by
    have h1 := h p (by simp) s pre (ps.flatMap (·.1) ++ 34 :: rest) (ps.length + 1) (by rw [hs]; simp)
    have h2 := says_all ps (fun q hq => h q (by simp [hq])) s (pre ++ p.1) rest (by rw [hs]; simp)
    rw [List.length_append] at h2
    rw [List.length_cons, h1, h2]
    simp
    omega
theorem parse_quoted {ps : List (List UInt8 × Nat)} (h : ∀ p ∈ ps, Says p.1 p.2) {s : List UInt8} (hs : s = 34 :: (ps.flatMap (·.1) ++ [34])) (hl : s.length ≤ 262144) :
    parseN s = .ok (.mk 5 ⟨(ps.flatMap fun p => Lib.encodeRune (p.2 : Int)).toArray⟩ [] []) := by
  have h1 := says_all ps h s [34] [] (by rw [hs]; rfl)
  have hlen : s.length = (ps.flatMap (·.1)).length + 2 := by rw [hs]; simp
  simp only [List.length_cons, List.length_nil, Nat.zero_add] at h1
  have h2 := said_fuel (a := s) (ps.length + 1) (s.length + 1) 1 _ (by omega) (by omega) h1
  have h0 : s[0]? = some 34 := by rw [hs]; rfl
  have ht : tokN s 0 = .ok ⟨5, 0, ⟨(ps.flatMap fun p => Lib.encodeRune (p.2 : Int)).toArray⟩, s.length⟩ := by
    unfold tokN
    rw [tok_at h0 (by decide), tokC, if_neg (by decide), if_pos rfl, Nat.zero_add, h2]
    simp only
    rw [show 1 + (ps.flatMap (·.1)).length + 1 = s.length by omega]
  have he := tok_end s s.length (Nat.le_refl _)
  unfold parseN
  rw [if_neg (by omega), ht]
  have hv : valN s 32 ⟨5, 0, ⟨(ps.flatMap fun p => Lib.encodeRune (p.2 : Int)).toArray⟩, s.length⟩ = .ok (.mk 5 ⟨(ps.flatMap fun p => Lib.encodeRune (p.2 : Int)).toArray⟩ [] [], ⟨0, s.length, noT, s.length⟩) := by
    unfold valN
    simp only [he]
    rfl
  simp only [hv]
  rfl
end Go.Proofs.YtmjooghfghmngaaDoor
