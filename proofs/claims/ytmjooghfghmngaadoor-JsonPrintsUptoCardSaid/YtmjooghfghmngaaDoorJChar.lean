/- A character of a string. -/
import Derived.Test.YtmjooghfghmngaaDoorJWant
namespace Go.Proofs.YtmjooghfghmngaaDoor
open Go.RowKit Go.Shelf Go.Lib

/-- The character at a place, and its bytes. -/
def runeAt (s : List UInt8) (p : Nat) : Nat × Nat := Lib.decodeGo ⟨(s.drop p).toArray⟩
def charL (s : List UInt8) (p : Nat) : Option (Value × Nat) :=
  if (runeAt s p).1 = 65533 ∧ (runeAt s p).2 < 3 then none else some (.int .i32 (runeAt s p).1, p + (runeAt s p).2)

theorem decodeN_size (n b0 b1 b2 b3 : Nat) (hn : 0 < n) : (Lib.decodeN n b0 b1 b2 b3).2 ≤ n ∧ (Lib.decodeN n b0 b1 b2 b3).2 ≤ 4 ∧ (Lib.decodeN n b0 b1 b2 b3).1 ≤ 1114111 := by
  unfold Lib.decodeN
  repeat' split
  all_goals (simp only; omega)
theorem runeAt_size {s : List UInt8} {p : Nat} (hp : p ≤ s.length) : p + (runeAt s p).2 ≤ s.length ∧ (runeAt s p).2 ≤ 4 ∧ (runeAt s p).1 ≤ 1114111 := by
  unfold runeAt Lib.decodeGo
  split
  · simp; omega
  · rename_i h
    rw [Lib.decode_at]
    have hz : (⟨(s.drop p).toArray⟩ : ByteArray).size = s.length - p := by simp [ByteArray.size]
    have := decodeN_size ((⟨(s.drop p).toArray⟩ : ByteArray).size - 0) (ByteArray.get! ⟨(s.drop p).toArray⟩ 0).toNat (ByteArray.get! ⟨(s.drop p).toArray⟩ (0 + 1)).toNat (ByteArray.get! ⟨(s.drop p).toArray⟩ (0 + 2)).toNat (ByteArray.get! ⟨(s.drop p).toArray⟩ (0 + 3)).toNat (by omega)
    omega

theorem rune_any {W : World} {A : Option Addr} {c p : Nat} {s : List UInt8} (h : Lib.BytesAt W A s.length s) (hT : Lib.Utf8Tabs 0 1 W) (h0 : 0 < s.length) (hp : p ≤ s.length) (hc : s.length ≤ c) :
    Calls Tryd.prog 70 #[.slice (advA A c p) (s.length - p) (c - p)] W fun e w' => e = .returned (.tuple #[.int .i32 (runeAt s p).1, .int .i64 (runeAt s p).2]) ∧ Below W.heap.size W w' := by
  obtain ⟨g, o, hA, hh⟩ := h h0
  obtain ⟨o', ho⟩ : ∃ o', advA A c p = some ⟨g, o', none⟩ := by
    rw [hA]; unfold advA; split
    · exact ⟨_, rfl⟩
    · exact ⟨o + p, by simp [Addr.add]⟩
  rw [ho]
  have hz : (⟨(s.drop p).toArray⟩ : ByteArray).size = s.length - p := by simp [ByteArray.size]
  have := Any7.utf8_DecodeRune Tryd.layDR ⟨(s.drop p).toArray⟩ g o' (c - p) W hT (fun j hj => by
    rw [hz] at hj
    obtain ⟨g', o'', e, h2⟩ := adv_bytes (c := c) h hp hc (by omega)
    rw [ho] at e
    cases e
    rw [h2 j hj]
    simp [ByteArray.get!, List.getD_eq_getElem?_getD, Array.getElem!_eq_getD, Array.getD_eq_getD_getElem?]
    rfl)
  rw [hz] at this
  exact this

set_option maxHeartbeats 2000000 in
theorem char_any {w : World} {b : Nat} {A : Option Addr} {c : Nat} {s : List UInt8} {k a : Int} {t : ByteArray} {p : Nat} (h : Rd w b A c s k a t p) (h0 : 0 < s.length) :
    Calls Tryd.prog 54 #[.pointer (some ⟨b, 0, none⟩)] w (Out b A c s k a t (charL s p) w) := by
  have hpos := h.pos
  have hsm := h.small
  obtain ⟨rr, hrr⟩ : ∃ r, r = charL s p := ⟨_, rfl⟩
  rw [← hrr]
  obtain ⟨hz1, hz2, hz3⟩ := runeAt_size hpos
  unfold charL at hrr
  have HT := Lib.hid (fun W (hB : Below w.heap.size w W) => (rune_any (h.on hB).bytes (h.on hB).tabs h0 hpos h.le).mono fun (e : Ending) W' ⟨he, hb⟩ => (⟨he, hB.trans (hb.mono hB.size)⟩ : e = Ending.returned _ ∧ Below w.heap.size w W'))
  generalize (runeAt s p).1 = r at *
  generalize (runeAt s p).2 = z at *
  have HRR := Lib.hid hrr
  have hfrom := run_from A s.length c p hpos
  have HBR := Lib.hid (Below.refl w.heap.size w)
  have HBD : Hid (Below w.heap.size w w.drew) := ⟨rfl, rfl, rfl, Nat.le_refl _, fun _ _ => rfl⟩
  have HK := Lib.hid (fun W (hB : Below w.heap.size w W) => (⟨(h.on hB).cells.2.2.2.1, (h.on hB).cells.2.2.2.2⟩ : W.cell? ⟨b, 3, none⟩ = some (.slice A s.length c) ∧ W.cell? ⟨b, 4, none⟩ = some (.int .i64 p)))
  have HR := Lib.hid (fun W (hB : Below w.heap.size w W) => h.on hB)
  have HW := Lib.hid (fun W => wrong_any k a t 11 W)
  clear hrr h
  go_enter Tryd.func54, Tryd.ntmps54
  go_wp2_with fail
  go_region_held3 (fun W => W.cell? ⟨b, 3, none⟩ = some (.slice A s.length c) ∧ W.cell? ⟨b, 4, none⟩ = some (.int .i64 p)) (first | exact HK.out _ HBR.out | exact HK.out _ HBD.out | exact HK.out _ (Hid.out (by assumption))) ((first
    | (go_at_call 70; (with_reducible refine (HT.out _ (by first | exact HBD.out | exact HBR.out)).mono ?_); rintro e' Wi ⟨rfl, hBi⟩; have HBI := Lib.hid hBi; clear hBi)))
  have hRi := HR.out _ HBI.out
  obtain ⟨q0, q1, q2, q3, q4⟩ := hRi.cells
  obtain ⟨f0, f1, f2, f3, f4⟩ := hRi.free
  have HRi := Lib.hid hRi
  clear hRi
  have hadd : IntKind.i64.wrap ((p : Int) + (z : Int)) = ((p + z : Nat) : Int) := by
    rw [IntWalk.i64_in _ (by omega)]; omega
  go_wp2_with (first
    | (go_at_call 41; (with_reducible refine (HW.out _).mono ?_); rintro e' Wk ⟨rfl, hBi⟩; have HB2 := Lib.hid hBi; clear hBi))
  · refine ⟨rfl, ?_⟩
    refine Out.no ?_ ((grew_of HBI.out _).trans (grew_of HB2.out _))
    rw [HRR.out, if_pos ⟨by omega, by omega⟩]
  · go_ret
    have hr : r = 65533 := by omega
    refine Out.yes (p' := p + z) ?_ (HRi.out.setP (by omega)) (grew_set (grew_of HBI.out _) 4 _)
    rw [HRR.out, if_neg (by omega), hr]; rfl
  · go_ret
    refine Out.yes (p' := p + z) ?_ (HRi.out.setP (by omega)) (grew_set (grew_of HBI.out _) 4 _)
    rw [HRR.out, if_neg (by omega)]; rfl
end Go.Proofs.YtmjooghfghmngaaDoor
