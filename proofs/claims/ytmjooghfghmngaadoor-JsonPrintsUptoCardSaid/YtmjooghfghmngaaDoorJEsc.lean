/- What is escaped in a string. -/
import Derived.Test.YtmjooghfghmngaaDoorJHex
namespace Go.Proofs.YtmjooghfghmngaaDoor
open Go.RowKit Go.Shelf Go.Lib

def charN (s : List UInt8) (p : Nat) : Option (Nat × Nat) :=
  if (runeAt s p).1 = 65533 ∧ (runeAt s p).2 < 3 then none else some ((runeAt s p).1, p + (runeAt s p).2)
def runeV (x : Nat × Nat) : Value × Nat := (.int .i32 x.1, x.2)
theorem charL_N (s : List UInt8) (p : Nat) : charL s p = (charN s p).map runeV := by
  unfold charL charN; split <;> rfl
theorem charN_le {s : List UInt8} {p r q : Nat} (h : charN s p = some (r, q)) (hp : p ≤ s.length) : q ≤ s.length ∧ r ≤ 1114111 := by
  have := runeAt_size hp
  unfold charN at h
  split at h
  · cases h
  · simp only [Option.some.injEq, Prod.mk.injEq] at h
    omega

/-- How a rune of a token is read. -/
def OutR (b : Nat) (A : Option Addr) (c : Nat) (s : List UInt8) (k a : Int) (t : ByteArray) (r : Option (Nat × Nat)) (w : World) (e : Ending) (w' : World) : Prop :=
  w.grownBy w' (some b) ∧ ((∃ v p', r = some (v, p') ∧ e = .returned (.int .i32 (v : Nat)) ∧ Rd w' b A c s k a t p') ∨ (r = none ∧ e = thrown a 11))
section
variable {b : Nat} {A : Option Addr} {c : Nat} {s : List UInt8} {k a : Int} {t : ByteArray} {r : Option (Nat × Nat)} {w w' : World}
theorem OutR.yes {v p' : Nat} (hr : r = some (v, p')) (hR : Rd w' b A c s k a t p') (hG : w.grownBy w' (some b)) : OutR b A c s k a t r w (.returned (.int .i32 (v : Nat))) w' :=
  ⟨hG, .inl ⟨v, p', hr, rfl, hR⟩⟩
theorem OutR.yes' {v p' : Nat} {x : Int} (hr : r = some (v, p')) (hR : Rd w' b A c s k a t p') (hG : w.grownBy w' (some b)) (hx : x = v) : OutR b A c s k a t r w (.returned (.int .i32 x)) w' := by
  subst hx; exact OutR.yes hr hR hG
theorem OutR.no (hr : r = none) (hG : w.grownBy w' (some b)) : OutR b A c s k a t r w (thrown a 11) w' := ⟨hG, .inr ⟨hr, rfl⟩⟩
end

theorem charN_any {w : World} {b : Nat} {A : Option Addr} {c : Nat} {s : List UInt8} {k a : Int} {t : ByteArray} {p : Nat} (h : Rd w b A c s k a t p) (h0 : 0 < s.length) :
    Calls Tryd.prog 54 #[.pointer (some ⟨b, 0, none⟩)] w (OutR b A c s k a t (charN s p) w) := by
  refine (char_any h h0).mono ?_
  rintro e w' ⟨hG, ⟨v, p', hr, rfl, hR⟩ | ⟨hr, rfl⟩⟩
  · rw [charL_N] at hr
    obtain ⟨x, hx, hv⟩ := Option.map_eq_some_iff.1 hr
    cases hv
    exact OutR.yes hx hR hG
  · rw [charL_N, Option.map_eq_none_iff] at hr
    exact OutR.no hr hG

/-- A hexadecimal digit's number. -/
def hexV (r : Nat) : Option Nat := if hexI r < 0 then none else some (if 15 < hexI r then hexI r - 6 else hexI r).toNat
/-- Four of them, one after the other. -/
def unitN (s : List UInt8) : Nat → Nat → Nat → Option (Nat × Nat)
  | 0, p, n => some (n, p)
  | m + 1, p, n => (charN s p).bind fun x => (hexV x.1).bind fun d => unitN s m x.2 (n * 16 + d)

theorem hexI_ge (l : List UInt8) (x : UInt8) : -1 ≤ Lib.indexByte l x ∧ Lib.indexByte l x < (l.length : Int) := by
  induction l with
  | nil => simp [Lib.indexByte]
  | cons c l ih =>
    simp only [Lib.indexByte, List.length_cons]
    split
    · omega
    · split <;> omega
theorem hexI_le (r : Nat) : -1 ≤ hexI r ∧ hexI r ≤ 21 := by
  unfold hexI
  split
  · have h1 := hexI_ge hexB (UInt8.ofNat r)
    have h2 : hexB.length = 22 := rfl
    omega
  · omega

set_option maxHeartbeats 2000000 in
theorem unit_any {w : World} {b : Nat} {A : Option Addr} {c : Nat} {s : List UInt8} {k a : Int} {t : ByteArray} {p : Nat} (h : Rd w b A c s k a t p) (h0 : 0 < s.length) :
    Calls Tryd.prog 82 #[.pointer (some ⟨b, 0, none⟩)] w (OutR b A c s k a t (unitN s 4 p 0) w) := by
  obtain ⟨rr, hrr⟩ : ∃ r, r = unitN s 4 p 0 := ⟨_, rfl⟩
  rw [← hrr]
  have HRR := Lib.hid hrr
  have HH := Lib.hid h
  have HW := Lib.hid (fun W => wrong_any k a t 11 W)
  have HC := Lib.hid (fun W q (hR : Rd W b A c s k a t q) => charN_any hR h0)
  have HX : Hid (∀ (r : Nat) (W : World), r ≤ 1114111 → Calls Tryd.prog 90 #[.string ⟨#[48, 49, 50, 51, 52, 53, 54, 55, 56, 57, 97, 98, 99, 100, 101, 102, 65, 66, 67, 68, 69, 70]⟩, .int .i32 r] W fun e w' => e = .returned (.int .i64 (hexI r)) ∧ Below W.heap.size W w') := fun r W h => hexIndex_any r h W
  clear hrr h
  go_enter Tryd.func82, Tryd.ntmps82
  go_wp2_with fail
  go_loopw [3, 5] (fun n i wr => ∃ (j q x : Nat), j ≤ 4 ∧ x < 16 ^ j ∧ i = .int .i64 j ∧ n = .int .i32 x ∧ Hid (Rd wr b A c s k a t q) ∧ Hid (w.grownBy wr (some b)) ∧ Hid (rr = unitN s (4 - j) q x)) (fun _ i _ => 4 - (RowKit.intOf i).toNat)
  case atStart => exact ⟨0, p, 0, by omega, by decide, rfl, rfl, HH, World.grownBy.refl _ _, HRR⟩
  case round =>
    obtain ⟨j, q, x, hj, hx, rfl, rfl, HR, HG, HU⟩ := hrel
    by_cases hlt : j < 4
    · go_wp2_with fail
      go_at_call 54
      refine (HC.out _ _ HR.out).mono ?_
      rintro e' Wi ⟨hGi, ⟨v, p', hr, rfl, hRi⟩ | ⟨hr, rfl⟩⟩
      · have hv := (charN_le hr HR.out.pos).2
        obtain ⟨hb1, hb2⟩ := hexI_le v
        have hU := HU.out
        rw [show 4 - j = (4 - (j + 1)) + 1 by omega, unitN, hr, Option.bind_some] at hU
        obtain ⟨z, hz⟩ : ∃ z, hexI v = z := ⟨_, rfl⟩
        have HXV := Lib.hid (fun W => HX.out v W hv)
        rw [hz] at HXV hb1 hb2
        unfold hexV at hU
        simp only [hz] at hU
        have HUU := Lib.hid hU
        have HGi := Lib.hid (HG.out.trans hGi)
        have HRi := Lib.hid hRi
        clear hU hGi hRi HU HG HR hr HH HRR hz
        go_wp2_with (first
          | (go_at_call 90; (with_reducible refine (HXV.out _).mono ?_); rintro e' Wj ⟨rfl, hBj⟩; obtain ⟨q0, q1, q2, q3, q4⟩ := (HRi.out.on hBj).cells; have HBj := Lib.hid hBj; clear hBj)
          | (go_at_call 41; (with_reducible refine (HW.out _).mono ?_); rintro e' Wk ⟨rfl, hBi⟩; have HB2 := Lib.hid hBi; clear hBi))
        · refine ⟨rfl, ?_⟩
          refine OutR.no ?_ ((HGi.out.trans (grew_of HBj.out _)).trans (grew_of HB2.out _))
          rw [HUU.out, if_pos ‹z < 0›]; rfl
        all_goals
          have hx4 : 16 ^ j ≤ 16 ^ 3 := Nat.pow_le_pow_right (by decide) (by omega)
          have hx5 : 16 ^ 3 = 4096 := rfl
          have hxp : 16 ^ (j + 1) = 16 ^ j * 16 := Nat.pow_succ 16 j
        · refine ⟨⟨j + 1, p', x * 16 + (z - 6).toNat, by omega, by omega, by go_num, ?_, HRi.out.on HBj.out, HGi.out.trans (grew_of HBj.out _), ?_⟩, by simp [RowKit.intOf]; omega⟩
          · congr 1
            unfold wrap32
            omega
          · show rr = _
            rw [HUU.out, if_neg (by omega), if_pos (by omega), Option.bind_some]
        · refine ⟨⟨j + 1, p', x * 16 + z.toNat, by omega, by omega, by go_num, ?_, HRi.out.on HBj.out, HGi.out.trans (grew_of HBj.out _), ?_⟩, by simp [RowKit.intOf]; omega⟩
          · congr 1
            unfold wrap32
            omega
          · show rr = _
            rw [HUU.out, if_neg (by omega), if_neg (by omega), Option.bind_some]
      · refine ⟨rfl, ?_⟩
        refine OutR.no ?_ (HG.out.trans hGi)
        rw [HU.out, show 4 - j = (4 - (j + 1)) + 1 by omega, unitN, hr]
        rfl
    · go_wp2_with fail
      go_ret
      obtain rfl : j = 4 := by omega
      exact OutR.yes HU.out HR.out HG.out

theorem between_any (x lo hi : Int) (w : World) :
    Calls Tryd.prog 84 #[.int .i32 x, .int .i32 lo, .int .i32 hi] w fun e w' => e = .returned (.bool (decide (lo ≤ x) && decide (x ≤ hi))) ∧ w' = w := by
  go_enter Tryd.func84, Tryd.ntmps84
  go_wp2_with fail
  · go_ret
    rename_i h
    exact ⟨by first | (simp; done) | simp [h], rfl⟩
  · go_ret
    rename_i h
    exact ⟨by first | (simp; done) | (simp; omega), rfl⟩

/-- What is behind \u. -/
def codedN (s : List UInt8) (p : Nat) : Option (Nat × Nat) :=
  (unitN s 4 p 0).bind fun x => if Lib.validRune (x.1 : Int) then some x else
    (charN s x.2).bind fun y => if y.1 = 92 then (charN s y.2).bind fun z => if z.1 = 117 then (unitN s 4 z.2 0).bind fun u =>
      if (55296 ≤ x.1 ∧ x.1 ≤ 56319) ∧ 56320 ≤ u.1 ∧ u.1 ≤ 57343 then some (65536 + (x.1 - 55296) * 1024 + (u.1 - 56320), u.2) else none
    else none else none

set_option maxHeartbeats 2000000 in
theorem coded_any {w : World} {b : Nat} {A : Option Addr} {c : Nat} {s : List UInt8} {k a : Int} {t : ByteArray} {p : Nat} (h : Rd w b A c s k a t p) (h0 : 0 < s.length) :
    Calls Tryd.prog 71 #[.pointer (some ⟨b, 0, none⟩)] w (OutR b A c s k a t (codedN s p) w) := by
  obtain ⟨rr, hrr⟩ : ∃ r, r = codedN s p := ⟨_, rfl⟩
  rw [← hrr]
  unfold codedN at hrr
  have HW := Lib.hid (fun W => wrong_any k a t 11 W)
  have HC := Lib.hid (fun W q (hR : Rd W b A c s k a t q) => charN_any hR h0)
  have HU := Lib.hid (fun W q (hR : Rd W b A c s k a t q) => unit_any hR h0)
  have HV := Lib.hid (fun (x : Int) W => Tryd.utf8_ValidRune x W)
  have HB := Lib.hid (fun (x lo hi : Int) W => between_any x lo hi W)
  have HRR := Lib.hid hrr
  clear hrr
  go_enter Tryd.func71, Tryd.ntmps71
  go_wp2_with fail
  go_at_call 82
  refine (HU.out _ _ h).mono ?_
  rintro e' W1 ⟨hG1, ⟨x, p1, hr, rfl, hR1⟩ | ⟨hr, rfl⟩⟩
  · have h1 := HRR.out
    rw [hr, Option.bind_some] at h1
    simp only at h1
    clear HRR hr
    cases hv : Lib.validRune (x : Int)
    · have HV1 : Hid (∀ W, Calls Tryd.prog 83 #[.int .i32 x] W fun e w' => e = .returned (.bool false) ∧ w' = W) := fun W => by have := HV.out x W; rwa [hv] at this
      rw [hv, if_neg (by decide)] at h1
      have HRR := Lib.hid h1
      have HG1 := Lib.hid hG1
      have HR1 := Lib.hid hR1
      clear h1 hG1 hR1 hv
      go_wp2_with (go_at_call 83; (with_reducible refine (HV1.out _).mono ?_); rintro e' _ ⟨rfl, rfl⟩)
      go_at_call 54
      refine (HC.out _ _ HR1.out).mono ?_
      rintro e' W2 ⟨hG2, ⟨y, p2, hr, rfl, hR2⟩ | ⟨hr, rfl⟩⟩
      · have h1 := HRR.out
        rw [hr, Option.bind_some] at h1
        simp only at h1
        clear HRR hr
        have HG2 := Lib.hid (HG1.out.trans hG2)
        clear hG2 HG1 HR1
        by_cases hy : y = 92
        · subst hy
          rw [if_pos rfl] at h1
          have HRR := Lib.hid h1
          clear h1
          go_wp2_with fail
          go_at_call 54
          refine (HC.out _ _ hR2).mono ?_
          clear hR2
          rintro e' W3 ⟨hG3, ⟨z, p3, hr, rfl, hR3⟩ | ⟨hr, rfl⟩⟩
          · have h1 := HRR.out
            rw [hr, Option.bind_some] at h1
            simp only at h1
            clear hr HRR
            have HG3 := Lib.hid (HG2.out.trans hG3)
            clear hG3 HG2
            by_cases hz : z = 117
            · subst hz
              rw [if_pos rfl] at h1
              have HRR := Lib.hid h1
              clear h1
              go_wp2_with fail
              go_at_call 82
              refine (HU.out _ _ hR3).mono ?_
              clear hR3
              rintro e' W4 ⟨hG4, ⟨u, p4, hr, rfl, hR4⟩ | ⟨hr, rfl⟩⟩
              · have h1 := HRR.out
                rw [hr, Option.bind_some] at h1
                simp only at h1
                clear hr HRR
                have HG4 := Lib.hid (HG3.out.trans hG4)
                clear hG4 HG3
                have HRR := Lib.hid h1
                clear h1
                obtain ⟨q0, q1, q2, q3, q4⟩ := hR4.cells
                have HR4 := Lib.hid hR4
                clear hR4
                go_wp2_with (first
                  | (go_at_call 84; (with_reducible refine (HB.out _ _ _ _).mono ?_); rintro e' _ ⟨rfl, rfl⟩)
                  | (go_at_call 41; (with_reducible refine (HW.out _).mono ?_); rintro e' Wk ⟨rfl, hBi⟩; have HB2 := Lib.hid hBi; clear hBi))
                all_goals first
                  | (have hd : (!decide ((56320 : Int) ≤ (u : Int))) = true ∨ (!decide ((u : Int) ≤ 57343)) = true := by assumption
                     refine ⟨rfl, OutR.no ?_ (HG4.out.trans (grew_of HB2.out _))⟩
                     rw [HRR.out, if_neg]
                     simp only [Bool.not_eq_true', decide_eq_false_iff_not] at hd
                     omega)
                  | (have hd : ¬ ((55296 : Int) ≤ (x : Int) ∧ (x : Int) ≤ 56319) := by assumption
                     refine ⟨rfl, OutR.no ?_ (HG4.out.trans (grew_of HB2.out _))⟩
                     rw [HRR.out, if_neg]
                     omega)
                  | (have hd : (!decide ((56320 : Int) ≤ (u : Int))) = false ∧ (!decide ((u : Int) ≤ 57343)) = false := by assumption
                     simp only [Bool.not_eq_false', decide_eq_true_eq] at hd
                     have hx : (55296 : Int) ≤ (x : Int) ∧ (x : Int) ≤ 56319 := by assumption
                     go_ret
                     have hv : wrap32 (65536 + ((x : Int) - 55296) * 1024 + wrap32 ((u : Int) - 56320)) = ((65536 + (x - 55296) * 1024 + (u - 56320) : Nat) : Int) := by
                       unfold wrap32; omega
                     refine OutR.yes' ?_ HR4.out HG4.out hv
                     rw [HRR.out, if_pos (by omega)])
              · refine ⟨rfl, ?_⟩
                refine OutR.no ?_ (HG3.out.trans hG4)
                rw [HRR.out, hr]
                rfl
            · rw [if_neg hz] at h1
              have HRR := Lib.hid h1
              clear h1
              have hzz : ((z : Int) != 117) = true := by rw [bne_iff_ne]; omega
              clear hz
              obtain ⟨q0, q1, q2, q3, q4⟩ := hR3.cells
              clear hR3
              go_wp2_with (go_at_call 41; (with_reducible refine (HW.out _).mono ?_); rintro e' Wk ⟨rfl, hBi⟩; have HB2 := Lib.hid hBi; clear hBi)
              exact ⟨rfl, OutR.no HRR.out (HG3.out.trans (grew_of HB2.out _))⟩
          · refine ⟨rfl, ?_⟩
            refine OutR.no ?_ (HG2.out.trans hG3)
            rw [HRR.out, hr]
            rfl
        · rw [if_neg hy] at h1
          have HRR := Lib.hid h1
          clear h1
          have hyy : ((y : Int) != 92) = true := by rw [bne_iff_ne]; omega
          clear hy
          obtain ⟨q0, q1, q2, q3, q4⟩ := hR2.cells
          clear hR2
          go_wp2_with (go_at_call 41; (with_reducible refine (HW.out _).mono ?_); rintro e' Wk ⟨rfl, hBi⟩; have HB2 := Lib.hid hBi; clear hBi)
          exact ⟨rfl, OutR.no HRR.out (HG2.out.trans (grew_of HB2.out _))⟩
      · refine ⟨rfl, ?_⟩
        refine OutR.no ?_ (HG1.out.trans hG2)
        rw [HRR.out, hr]
        rfl
    · have HV1 : Hid (∀ W, Calls Tryd.prog 83 #[.int .i32 x] W fun e w' => e = .returned (.bool true) ∧ w' = W) := fun W => by have := HV.out x W; rwa [hv] at this
      rw [hv, if_pos rfl] at h1
      have HRR := Lib.hid h1
      have HG1 := Lib.hid hG1
      have HR1 := Lib.hid hR1
      clear h1 hG1 hR1 hv
      go_wp2_with (go_at_call 83; (with_reducible refine (HV1.out _).mono ?_); rintro e' _ ⟨rfl, rfl⟩)
      go_ret
      exact OutR.yes HRR.out HR1.out HG1.out
  · refine ⟨rfl, ?_⟩
    refine OutR.no ?_ hG1
    rw [HRR.out, hr]
    rfl

/-- What is behind a backslash. -/
def escN (s : List UInt8) (p : Nat) : Option (Nat × Nat) :=
  (charN s p).bind fun x =>
    if x.1 = 34 ∨ x.1 = 92 ∨ x.1 = 47 then some x
    else if x.1 = 98 then some (8, x.2) else if x.1 = 102 then some (12, x.2) else if x.1 = 110 then some (10, x.2)
    else if x.1 = 114 then some (13, x.2) else if x.1 = 116 then some (9, x.2)
    else if x.1 = 117 then codedN s x.2 else none

set_option maxHeartbeats 2000000 in
theorem escaped_any {w : World} {b : Nat} {A : Option Addr} {c : Nat} {s : List UInt8} {k a : Int} {t : ByteArray} {p : Nat} (h : Rd w b A c s k a t p) (h0 : 0 < s.length) :
    Calls Tryd.prog 56 #[.pointer (some ⟨b, 0, none⟩)] w (OutR b A c s k a t (escN s p) w) := by
  obtain ⟨rr, hrr⟩ : ∃ r, r = escN s p := ⟨_, rfl⟩
  rw [← hrr]
  unfold escN at hrr
  have HW := Lib.hid (fun W => wrong_any k a t 11 W)
  have HC := Lib.hid (fun W q (hR : Rd W b A c s k a t q) => charN_any hR h0)
  have HU := Lib.hid (fun W q (hR : Rd W b A c s k a t q) => coded_any hR h0)
  have HRR := Lib.hid hrr
  clear hrr
  go_enter Tryd.func56, Tryd.ntmps56
  go_wp2_with fail
  go_at_call 54
  refine (HC.out _ _ h).mono ?_
  rintro e' W1 ⟨hG1, ⟨x, p1, hr, rfl, hR1⟩ | ⟨hr, rfl⟩⟩
  · have h1 := HRR.out
    rw [hr, Option.bind_some] at h1
    simp only at h1
    clear HRR hr
    have HRR := Lib.hid h1
    have HG1 := Lib.hid hG1
    obtain ⟨q0, q1, q2, q3, q4⟩ := hR1.cells
    have HR1 := Lib.hid hR1
    have HUW : Hid (∀ P : Ending → World → Prop, (∀ e w', OutR b A c s k a t (codedN s p1) W1 e w' → P e w') → Calls Tryd.prog 71 #[.pointer (some ⟨b, 0, none⟩)] W1 P) := fun P hP => (HU.out _ _ hR1).mono hP
    clear h1 hG1 hR1
    go_wp2_with (go_at_call 41; (with_reducible refine (HW.out _).mono ?_); rintro e' Wk ⟨rfl, hBi⟩; have HB2 := Lib.hid hBi; clear hBi)
    · go_ret
      refine OutR.yes' (v := x) ?_ HR1.out HG1.out rfl
      go_light
      simp only [beq_iff_eq] at *
      obtain rfl : x = 34 := by omega
      rw [HRR.out]; rfl
    · go_ret
      refine OutR.yes' (v := x) ?_ HR1.out HG1.out rfl
      go_light
      simp only [beq_eq_false_iff_ne, ne_eq, beq_iff_eq] at *
      obtain rfl : x = 92 := by omega
      rw [HRR.out]; rfl
    · go_ret
      refine OutR.yes' (v := x) ?_ HR1.out HG1.out rfl
      go_light
      simp only [beq_eq_false_iff_ne, ne_eq, beq_iff_eq] at *
      obtain rfl : x = 47 := by omega
      rw [HRR.out]; rfl
    · go_ret
      refine OutR.yes' (v := 8) ?_ HR1.out HG1.out rfl
      go_light
      simp only [beq_eq_false_iff_ne, ne_eq, beq_iff_eq] at *
      obtain rfl : x = 98 := by omega
      rw [HRR.out]; rfl
    · go_ret
      refine OutR.yes' (v := 12) ?_ HR1.out HG1.out rfl
      go_light
      simp only [beq_eq_false_iff_ne, ne_eq, beq_iff_eq] at *
      obtain rfl : x = 102 := by omega
      rw [HRR.out]; rfl
    · go_ret
      refine OutR.yes' (v := 10) ?_ HR1.out HG1.out rfl
      go_light
      simp only [beq_eq_false_iff_ne, ne_eq, beq_iff_eq] at *
      obtain rfl : x = 110 := by omega
      rw [HRR.out]; rfl
    · go_ret
      refine OutR.yes' (v := 13) ?_ HR1.out HG1.out rfl
      go_light
      simp only [beq_eq_false_iff_ne, ne_eq, beq_iff_eq] at *
      obtain rfl : x = 114 := by omega
      rw [HRR.out]; rfl
    · go_ret
      refine OutR.yes' (v := 9) ?_ HR1.out HG1.out rfl
      go_light
      simp only [beq_eq_false_iff_ne, ne_eq, beq_iff_eq] at *
      obtain rfl : x = 116 := by omega
      rw [HRR.out]; rfl
    · go_at_call 71
      refine HUW.out _ ?_
      rintro e' W2 ⟨hG2, ⟨y, p2, hr, rfl, hR2⟩ | ⟨hr, rfl⟩⟩
      · go_wp2_with fail
        go_ret
        refine OutR.yes (v := y) ?_ hR2 (HG1.out.trans hG2)
        rw [HRR.out, ← hr]
        go_light
        simp only [beq_eq_false_iff_ne, ne_eq, beq_iff_eq] at *
        obtain rfl : x = 117 := by omega
        rfl
      · refine ⟨rfl, ?_⟩
        refine OutR.no ?_ (HG1.out.trans hG2)
        rw [HRR.out, ← hr]
        go_light
        simp only [beq_eq_false_iff_ne, ne_eq, beq_iff_eq] at *
        obtain rfl : x = 117 := by omega
        rfl
    · refine ⟨rfl, ?_⟩
      refine OutR.no ?_ (HG1.out.trans (grew_of HB2.out _))
      rw [HRR.out]
      go_light
      simp only [beq_eq_false_iff_ne, ne_eq] at *
      rw [if_neg (by omega), if_neg (by omega), if_neg (by omega), if_neg (by omega), if_neg (by omega), if_neg (by omega), if_neg (by omega)]
  · refine ⟨rfl, ?_⟩
    refine OutR.no ?_ hG1
    rw [HRR.out, hr]
    rfl
end Go.Proofs.YtmjooghfghmngaaDoor
