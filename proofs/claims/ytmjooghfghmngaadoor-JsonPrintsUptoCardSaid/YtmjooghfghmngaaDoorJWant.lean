/- What a reader gives up by; a token that is wanted. -/
import Derived.Test.YtmjooghfghmngaaDoorJNum
namespace Go.Proofs.YtmjooghfghmngaaDoor
open Go.RowKit Go.Shelf Go.Lib

/-- A panic by a fault: where, and which error. -/
abbrev thrown (a e : Int) : Ending := .panicked [{ v := .iface 48 (.agg #[.int .i64 a, .int .i64 e]), recovered := false }]

set_option maxHeartbeats 1000000 in
theorem wrong_any (k a : Int) (t : ByteArray) (e : Int) (w : World) :
    Calls Tryd.prog 41 #[.agg #[.int .i64 k, .int .i64 a, .string t], .int .i64 e] w fun r w' => r = .returned (.agg #[.int .i64 a, .int .i64 e]) ∧ Below w.heap.size w w' := by
  go_enter Tryd.func41, Tryd.ntmps41
  go_wp2_with fail
  exact bodyPost_ret (v := .agg #[.int .i64 a, .int .i64 e]) (by simp [results, Tryd.results41, go_sem]) rfl ⟨rfl, by go_grown⟩

set_option maxHeartbeats 1000000 in
theorem want_no {w : World} {b : Nat} {A : Option Addr} {c : Nat} {s : List UInt8} {k a : Int} {t : ByteArray} {p : Nat} (h : Rd w b A c s k a t p) (n : Int) (hn : ¬ k = n) :
    Calls Tryd.prog 24 #[.pointer (some ⟨b, 0, none⟩), .int .i64 n] w fun e w' => e = thrown a 11 ∧ Below w.heap.size w w' := by
  obtain ⟨c0, c1, c2, c3, c4⟩ := h.cells
  have hk : (k != n) = true := by simpa using hn
  have HW := Lib.hid (fun W => wrong_any k a t 11 W)
  go_enter Tryd.func24, Tryd.ntmps24
  go_wp2_with (go_at_call 41; (with_reducible refine (HW.out _).mono ?_); rintro e' Wi ⟨rfl, hBi⟩; have HB1 := Lib.hid hBi; clear hBi)
  exact ⟨rfl, rfl, HB1.out⟩

set_option maxHeartbeats 1000000 in
theorem want_yes {w : World} {b : Nat} {A : Option Addr} {c : Nat} {s : List UInt8} {k a : Int} {t : ByteArray} {p : Nat} (h : Rd w b A c s k a t p) :
    Calls Tryd.prog 24 #[.pointer (some ⟨b, 0, none⟩), .int .i64 k] w fun e w' => e = .returned (.tuple #[]) ∧ w' = w := by
  obtain ⟨c0, c1, c2, c3, c4⟩ := h.cells
  have hk : (k != k) = false := by simp
  go_enter Tryd.func24, Tryd.ntmps24
  go_wp2_with fail
  first | go_end0 | refine bodyPost_ret (results_none rfl _ _ _) rfl ?_
  all_goals exact ⟨rfl, rfl⟩

def lowB : List UInt8 := [97, 98, 99, 100, 101, 102, 103, 104, 105, 106, 107, 108, 109, 110, 111, 112, 113, 114, 115, 116, 117, 118, 119, 120, 121, 122]
def numsB : List UInt8 := [48, 49, 50, 51, 52, 53, 54, 55, 56, 57, 43, 45, 46, 101, 69]
def nullB : List UInt8 := [110, 117, 108, 108]
def falseB : List UInt8 := [102, 97, 108, 115, 101]
def trueB : List UInt8 := [116, 114, 117, 101]
/-- The kind of a word; 0: it is none. -/
def wordK (l : List UInt8) : Int := if l = nullB then 1 else if l = falseB then 2 else if l = trueB then 3 else 0

/-- How a piece of a token is read: a value and how far, or the token is at fault. -/
def Out (b : Nat) (A : Option Addr) (c : Nat) (s : List UInt8) (k a : Int) (t : ByteArray) (r : Option (Value × Nat)) (w : World) (e : Ending) (w' : World) : Prop :=
  w.grownBy w' (some b) ∧ ((∃ v p', r = some (v, p') ∧ e = .returned v ∧ Rd w' b A c s k a t p') ∨ (r = none ∧ e = thrown a 11))
theorem Out.yes {b : Nat} {A : Option Addr} {c : Nat} {s : List UInt8} {k a : Int} {t : ByteArray} {r : Option (Value × Nat)} {w w' : World} {v : Value} {p' : Nat} (hr : r = some (v, p')) (hR : Rd w' b A c s k a t p') (hG : w.grownBy w' (some b)) : Out b A c s k a t r w (.returned v) w' :=
  ⟨hG, .inl ⟨v, p', hr, rfl, hR⟩⟩
theorem Out.no {b : Nat} {A : Option Addr} {c : Nat} {s : List UInt8} {k a : Int} {t : ByteArray} {r : Option (Value × Nat)} {w w' : World} (hr : r = none) (hG : w.grownBy w' (some b)) : Out b A c s k a t r w (thrown a 11) w' :=
  ⟨hG, .inr ⟨hr, rfl⟩⟩

def wordL (s : List UInt8) (p : Nat) : Option (Value × Nat) :=
  if wordK (runL s lowB p) = 0 then none else some (.int .i64 (wordK (runL s lowB p)), p + (runL s lowB p).length)

set_option maxHeartbeats 1000000 in
theorem word_any {w : World} {b : Nat} {A : Option Addr} {c : Nat} {s : List UInt8} {k a : Int} {t : ByteArray} {p : Nat} (h : Rd w b A c s k a t p) :
    Calls Tryd.prog 39 #[.pointer (some ⟨b, 0, none⟩)] w (Out b A c s k a t (wordL s p) w) := by
  obtain ⟨q, hq⟩ : ∃ q : ByteArray, q = ⟨(runL s lowB p).toArray⟩ := ⟨_, rfl⟩
  have HR : Hid (∀ W, Rd W b A c s k a t p → Calls Tryd.prog 36 #[.pointer (some ⟨b, 0, none⟩), .string ⟨#[97, 98, 99, 100, 101, 102, 103, 104, 105, 106, 107, 108, 109, 110, 111, 112, 113, 114, 115, 116, 117, 118, 119, 120, 121, 122]⟩] W fun e w' => e = .returned (.string q) ∧ Rd w' b A c s k a t (p + (runL s lowB p).length) ∧ W.grownBy w' (some b)) := fun W h => by rw [hq]; exact run_any h lowB (by decide) (by decide)
  have hql : q.toList = runL s lowB p := by rw [hq, Lib.toList_data]
  have HQ := Lib.hid hql
  have HH := Lib.hid h
  obtain ⟨r, hr⟩ : ∃ r, r = wordL s p := ⟨_, rfl⟩
  rw [← hr]
  have HRR := Lib.hid hr
  have HW := Lib.hid (fun W => wrong_any k a t 11 W)
  clear hq hql h hr
  go_enter Tryd.func39, Tryd.ntmps39
  go_wp2_with (first
    | (go_at_call 36; (with_reducible refine (HR.out _ HH.out).mono ?_); rintro e' Wi ⟨rfl, hRi, hGi⟩; obtain ⟨q0, q1, q2, q3, q4⟩ := hRi.cells; have HRi := Lib.hid hRi; have HGi := Lib.hid hGi; clear hRi hGi)
    | (go_at_call 41; (with_reducible refine (HW.out _).mono ?_); rintro e' Wj ⟨rfl, hBi⟩; have HB1 := Lib.hid hBi; clear hBi))
  · go_ret
    refine Out.yes ?_ HRi.out HGi.out
    have e1 := eq_of_beq ‹(q.toList == [110, 117, 108, 108]) = true›
    rw [HRR.out, wordL, ← HQ.out, e1]; rfl
  · go_ret
    refine Out.yes ?_ HRi.out HGi.out
    have e1 := eq_of_beq ‹(q.toList == [102, 97, 108, 115, 101]) = true›
    rw [HRR.out, wordL, ← HQ.out, e1]; rfl
  · go_ret
    refine Out.yes ?_ HRi.out HGi.out
    have e1 := eq_of_beq ‹(q.toList == [116, 114, 117, 101]) = true›
    rw [HRR.out, wordL, ← HQ.out, e1]; rfl
  · refine ⟨rfl, ?_⟩
    refine Out.no ?_ (HGi.out.trans (grew_of HB1.out _))
    have e1 := beq_eq_false_iff_ne.1 ‹(q.toList == [110, 117, 108, 108]) = false›
    have e2 := beq_eq_false_iff_ne.1 ‹(q.toList == [102, 97, 108, 115, 101]) = false›
    have e3 := beq_eq_false_iff_ne.1 ‹(q.toList == [116, 114, 117, 101]) = false›
    rw [HRR.out, wordL, ← HQ.out, if_pos]
    unfold wordK
    rw [if_neg (show ¬ _ = nullB from e1), if_neg (show ¬ _ = falseB from e2), if_neg (show ¬ _ = trueB from e3)]

def numL (s : List UInt8) (p : Nat) : Option (Value × Nat) :=
  if numB (runL s numsB p) then some (.string ⟨(runL s numsB p).toArray⟩, p + (runL s numsB p).length) else none

set_option maxHeartbeats 1000000 in
theorem number_any {w : World} {b : Nat} {A : Option Addr} {c : Nat} {s : List UInt8} {k a : Int} {t : ByteArray} {p : Nat} (h : Rd w b A c s k a t p) :
    Calls Tryd.prog 40 #[.pointer (some ⟨b, 0, none⟩)] w (Out b A c s k a t (numL s p) w) := by
  obtain ⟨q, hq⟩ : ∃ q : ByteArray, q = ⟨(runL s numsB p).toArray⟩ := ⟨_, rfl⟩
  obtain ⟨f, hf⟩ : ∃ f, f = numB (runL s numsB p) := ⟨_, rfl⟩
  have HR : Hid (∀ W, Rd W b A c s k a t p → Calls Tryd.prog 36 #[.pointer (some ⟨b, 0, none⟩), .string ⟨#[48, 49, 50, 51, 52, 53, 54, 55, 56, 57, 43, 45, 46, 101, 69]⟩] W fun e w' => e = .returned (.string q) ∧ Rd w' b A c s k a t (p + (runL s numsB p).length) ∧ W.grownBy w' (some b)) := fun W h => by rw [hq]; exact run_any h numsB (by decide) (by decide)
  have hqz : q.size ≤ 262144 := by
    have h1 := runL_len s numsB h.pos
    have h2 := h.small
    rw [(list_le hq).2]; omega
  have HN : Hid (∀ W, Calls Tryd.prog 29 #[.string q] W fun e w' => e = .returned (.bool f) ∧ Below W.heap.size W w') := fun W => by
    have := isNumber_any q W (by omega)
    rwa [show q.data.toList = runL s numsB p by rw [hq], ← hf] at this
  have HH := Lib.hid h
  have hr : numL s p = if f then some (.string q, p + (runL s numsB p).length) else none := by rw [numL, ← hf, hq]
  rw [hr]
  have HW := Lib.hid (fun W => wrong_any k a t 11 W)
  clear hq h hf hr
  cases f with
  | true =>
    go_enter Tryd.func40, Tryd.ntmps40
    go_wp2_with (first
      | (go_at_call 36; (with_reducible refine (HR.out _ HH.out).mono ?_); rintro e' Wi ⟨rfl, hRi, hGi⟩; have HRi := Lib.hid hRi; have HGi := Lib.hid hGi; clear hRi hGi)
      | (go_at_call 29; (with_reducible refine (HN.out _).mono ?_); rintro e' Wj ⟨rfl, hBi⟩; have HB1 := Lib.hid hBi; clear hBi))
    go_ret
    exact Out.yes rfl (HRi.out.on HB1.out) (HGi.out.trans (grew_of HB1.out _))
  | false =>
    go_enter Tryd.func40, Tryd.ntmps40
    go_wp2_with (first
      | (go_at_call 36; (with_reducible refine (HR.out _ HH.out).mono ?_); rintro e' Wi ⟨rfl, hRi, hGi⟩; have HRi := Lib.hid hRi; have HGi := Lib.hid hGi; clear hRi hGi)
      | (go_at_call 29; (with_reducible refine (HN.out _).mono ?_); rintro e' Wj ⟨rfl, hBi⟩; obtain ⟨q0, q1, q2, q3, q4⟩ := (HRi.out.on hBi).cells; have HB1 := Lib.hid hBi; clear hBi)
      | (go_at_call 41; (with_reducible refine (HW.out _).mono ?_); rintro e' Wk ⟨rfl, hBi⟩; have HB2 := Lib.hid hBi; clear hBi))
    refine ⟨rfl, ?_⟩
    exact Out.no rfl ((HGi.out.trans (grew_of HB1.out _)).trans (grew_of HB2.out _))
end Go.Proofs.YtmjooghfghmngaaDoor
