/- The next token. -/
import Derived.Test.YtmjooghfghmngaaDoorJSaid
namespace Go.Proofs.YtmjooghfghmngaaDoor
open Go.RowKit Go.Shelf Go.Lib

def blankB : List UInt8 := [32, 9, 10, 13]
def signB : List UInt8 := [123, 125, 91, 93, 58, 44]
/-- A token: its kind, where it begins, its text, and how far it goes; or where the one at fault begins. -/
inductive TokR
  | ok (k : Int) (a : Nat) (t : ByteArray) (q : Nat)
  | bad (a : Nat)
def noT : ByteArray := ⟨#[]⟩
/-- The token that begins with byte c, at place p. -/
def tokC (s : List UInt8) (c : UInt8) (p : Nat) : TokR :=
  if signB.contains c then .ok (c.toNat : Int) p noT (p + 1)
  else if c = 34 then (match saidN s (s.length + 1) (p + 1) with
    | some z => .ok 5 p ⟨z.1.toArray⟩ z.2
    | none => .bad p)
  else if lowB.contains c then (if wordK (runL s lowB p) = 0 then .bad p else .ok (wordK (runL s lowB p)) p noT (p + (runL s lowB p).length))
  else if numsB.contains c then (if numB (runL s numsB p) then .ok 4 p ⟨(runL s numsB p).toArray⟩ (p + (runL s numsB p).length) else .bad p)
  else .bad p
def blankE (s : List UInt8) (p : Nat) : Nat := p + (runL s blankB p).length
def tokL (s : List UInt8) (p : Nat) : TokR :=
  match s[blankE s p]? with
  | none => .ok 0 (blankE s p) noT (blankE s p)
  | some c => tokC s c (blankE s p)

def OutT (b : Nat) (A : Option Addr) (c : Nat) (s : List UInt8) (r : TokR) (w : World) (e : Ending) (w' : World) : Prop :=
  w.grownBy w' (some b) ∧ ((∃ k a t q, r = .ok k a t q ∧ e = .returned (.tuple #[]) ∧ Rd w' b A c s k (a : Nat) t q) ∨ (∃ a : Nat, r = .bad a ∧ e = thrown a 11))
section
variable {b : Nat} {A : Option Addr} {c : Nat} {s : List UInt8} {r : TokR} {w w' : World}
theorem OutT.yes {k : Int} {a : Nat} {t : ByteArray} {q : Nat} (hr : r = .ok k a t q) (hR : Rd w' b A c s k (a : Nat) t q) (hG : w.grownBy w' (some b)) : OutT b A c s r w (.returned (.tuple #[])) w' :=
  ⟨hG, .inl ⟨k, a, t, q, hr, rfl, hR⟩⟩
theorem OutT.no {a : Nat} (hr : r = .bad a) (hG : w.grownBy w' (some b)) : OutT b A c s r w (thrown a 11) w' := ⟨hG, .inr ⟨a, hr, rfl⟩⟩
end

theorem index_contains (l : List UInt8) (x : UInt8) : (0 ≤ Lib.indexByte l x) = (l.contains x = true) := by
  induction l with
  | nil => simp [Lib.indexByte]
  | cons c l ih =>
    have h := hexI_ge l x
    simp only [Lib.indexByte]
    by_cases hc : c = x
    · simp [hc]
    · have hx : ¬ x = c := fun e => hc e.symm
      simp only [List.contains_cons, Bool.or_eq_true, beq_iff_eq, hx, false_or] at ih ⊢
      rw [← ih]
      simp only [hc, if_false]
      apply propext
      split <;> omega

set_option maxHeartbeats 4000000 in
theorem next_any {w : World} {b : Nat} {A : Option Addr} {c : Nat} {s : List UInt8} {k a : Int} {t : ByteArray} {p : Nat} (h : Rd w b A c s k a t p) :
    Calls Tryd.prog 22 #[.pointer (some ⟨b, 0, none⟩)] w (OutT b A c s (tokL s p) w) := by
  obtain ⟨rr, hrr⟩ : ∃ r, r = tokL s p := ⟨_, rfl⟩
  rw [← hrr]
  unfold tokL at hrr
  have hpos := h.pos
  have hsm := h.small
  have hbl := runL_len s blankB hpos
  have HR : Hid (∀ W, Rd W b A c s k a t p → Calls Tryd.prog 36 #[.pointer (some ⟨b, 0, none⟩), .string ⟨#[32, 9, 10, 13]⟩] W fun e w' => e = .returned (.string ⟨(runL s blankB p).toArray⟩) ∧ Rd w' b A c s k a t (blankE s p) ∧ W.grownBy w' (some b)) := fun W h => run_any h blankB (by decide) (by decide)
  have hE : blankE s p ≤ s.length := hbl
  generalize (⟨(runL s blankB p).toArray⟩ : ByteArray) = bl at HR
  generalize blankE s p = q at *
  have HRR := Lib.hid hrr
  clear hrr hbl
  go_enter Tryd.func22, Tryd.ntmps22
  go_wp2_with fail
  go_at_call 36
  refine (HR.out _ h).mono ?_
  rintro e' W1 ⟨rfl, hR1, hG1⟩
  obtain ⟨q0, q1, q2, q3, q4⟩ := hR1.cells
  obtain ⟨f0, f1, f2, f3, f4⟩ := hR1.free
  have hR2 : Rd (((W1.setCell ⟨b, 0, none⟩ (.int .i64 0)).setCell ⟨b, 1, none⟩ (.int .i64 (q : Nat))).setCell ⟨b, 2, none⟩ (.string ⟨#[]⟩)) b A c s 0 (q : Nat) noT q := ((hR1.setK 0).setA (q : Nat)).setT noT
  have hG2 := grew_set (grew_set (grew_set hG1 0 (.int .i64 0)) 1 (.int .i64 (q : Nat))) 2 (.string ⟨#[]⟩)
  have HR2 := Lib.hid hR2
  have HG2 := Lib.hid hG2
  clear hR1 hR2 hG1 hG2 h
  go_wp2_with fail
  generalize ((W1.setCell ⟨b, 0, none⟩ (.int .i64 0)).setCell ⟨b, 1, none⟩ (.int .i64 (q : Nat))).setCell ⟨b, 2, none⟩ (.string ⟨#[]⟩) = W2 at *
  clear q0 q1 q2 q3 q4 f0 f1 f2 f3 f4
  obtain ⟨q0, q1, q2, q3, q4⟩ := HR2.out.cells
  have HW := Lib.hid (fun W => wrong_any 0 (q : Nat) noT 11 W)
  rcases Nat.lt_or_ge q s.length with hlt | hge
  · have hne : ((q : Int) == (s.length : Int)) = false := by rw [beq_eq_false_iff_ne]; omega
    obtain ⟨x, hx⟩ : ∃ x, s[q]? = some x := ⟨s[q], List.getElem?_eq_getElem hlt⟩
    have h1 := HRR.out
    rw [hx] at h1
    simp only at h1
    have HRR := Lib.hid h1
    obtain ⟨g, o, hA, hc⟩ := HR2.out.bytes (by omega)
    have hcq := hc q hlt
    rw [show s.getD q 0 = x by simp [List.getD_eq_getElem?_getD, hx]] at hcq
    clear h1 hx hc
    subst hA
    have hq0 : (0 : Int) ≤ (q : Int) := by omega
    have hq1 : (q : Int) < (s.length : Int) := by omega
    have HRN := Lib.hid (fun n => HR2.out.drewN n)
    have HGN := Lib.hid (fun n => grew_drewN HG2.out n)
    have hxb : (((x.toNat : Nat) : Int).toNat.toUInt8) = x := by simp
    obtain ⟨j1, hj1⟩ : ∃ j, j = Lib.indexByte signB x := ⟨_, rfl⟩
    obtain ⟨j2, hj2⟩ : ∃ j, j = Lib.indexByte lowB x := ⟨_, rfl⟩
    obtain ⟨j3, hj3⟩ : ∃ j, j = Lib.indexByte numsB x := ⟨_, rfl⟩
    have HI1 : Hid (∀ W, Calls Tryd.prog 37 #[.string ⟨#[123, 125, 91, 93, 58, 44]⟩, .int .u8 (x.toNat : Nat)] W fun e w' => e = .returned (.int .i64 j1) ∧ w' = W) := fun W => by rw [hj1]; have := Tryd.strings_IndexByte ⟨#[123, 125, 91, 93, 58, 44]⟩ (x.toNat : Nat) W; rw [hxb] at this; exact this
    have HI2 : Hid (∀ W, Calls Tryd.prog 37 #[.string ⟨#[97, 98, 99, 100, 101, 102, 103, 104, 105, 106, 107, 108, 109, 110, 111, 112, 113, 114, 115, 116, 117, 118, 119, 120, 121, 122]⟩, .int .u8 (x.toNat : Nat)] W fun e w' => e = .returned (.int .i64 j2) ∧ w' = W) := fun W => by rw [hj2]; have := Tryd.strings_IndexByte ⟨#[97, 98, 99, 100, 101, 102, 103, 104, 105, 106, 107, 108, 109, 110, 111, 112, 113, 114, 115, 116, 117, 118, 119, 120, 121, 122]⟩ (x.toNat : Nat) W; rw [hxb] at this; exact this
    have HI3 : Hid (∀ W, Calls Tryd.prog 37 #[.string ⟨#[48, 49, 50, 51, 52, 53, 54, 55, 56, 57, 43, 45, 46, 101, 69]⟩, .int .u8 (x.toNat : Nat)] W fun e w' => e = .returned (.int .i64 j3) ∧ w' = W) := fun W => by rw [hj3]; have := Tryd.strings_IndexByte ⟨#[48, 49, 50, 51, 52, 53, 54, 55, 56, 57, 43, 45, 46, 101, 69]⟩ (x.toNat : Nat) W; rw [hxb] at this; exact this
    have k1 := index_contains signB x
    have k2 := index_contains lowB x
    have k3 := index_contains numsB x
    rw [← hj1] at k1
    rw [← hj2] at k2
    rw [← hj3] at k3
    have K1 := Lib.hid k1
    have K2 := Lib.hid k2
    have K3 := Lib.hid k3
    clear hj1 hj2 hj3 k1 k2 k3 hxb
    go_quiet (fail)
    go_wp2_with fail
    go_quiet (fail)
    go_wp2_with fail
    generalize hN : W2.drewN (_ + _) = W3
    have hR3 : Rd W3 b (some ⟨g, o, none⟩) c s 0 (q : Nat) noT q := hN ▸ HRN.out _
    have hG3 : w.grownBy W3 (some b) := hN ▸ HGN.out _
    clear hN HRN HGN q0 q1 q2 q3 q4 hcq
    obtain ⟨q0, q1, q2, q3, q4⟩ := hR3.cells
    obtain ⟨f0, f1, f2, f3, f4⟩ := hR3.free
    by_cases h1 : 0 ≤ j1
    · have hsg := K1.out ▸ h1
      have hR4 := (hR3.setK ((x.toNat : Nat) : Int)).setP (p' := q + 1) (by omega)
      have hG4 := grew_set (grew_set hG3 0 (.int .i64 (x.toNat : Nat))) 4 (.int .i64 ((q + 1 : Nat) : Int))
      have HR4 := Lib.hid hR4
      have HG4 := Lib.hid hG4
      clear hR3 hG3 hR4 hG4
      have hxl := x.toNat_lt
      have hadd : IntKind.i64.wrap ((q : Int) + 1) = ((q + 1 : Nat) : Int) := by rw [IntWalk.i64_in _ (by omega)]; omega
      go_wp2_with (go_at_call 37; (with_reducible refine (HI1.out _).mono ?_); rintro e' _ ⟨rfl, rfl⟩)
      refine bodyPost_ret (results_none rfl _ _ _) rfl ?_
      refine OutT.yes ?_ HR4.out HG4.out
      rw [HRR.out, tokC, if_pos hsg]
    · have hsg : ¬ signB.contains x = true := K1.out ▸ h1
      by_cases hq34 : x = 34
      · have hxe : ((x.toNat : Int) == 34) = true := by rw [cmpE (k := 34) 34 rfl]; simp [hq34]
        have h2 := HRR.out
        rw [tokC, if_neg hsg, if_pos hq34] at h2
        have HRR := Lib.hid h2
        have HS := Lib.hid (said_any hR3 hlt)
        have HG3 := Lib.hid hG3
        clear hR3 hG3 h2 hsg hq34 q0 q1 q2 q3 q4 f0 f1 f2 f3 f4
        go_wp2_with (go_at_call 37; (with_reducible refine (HI1.out _).mono ?_); rintro e' _ ⟨rfl, rfl⟩)
        go_at_call 38
        refine HS.out.mono ?_
        rintro e' W4 ⟨hG4, ⟨v, p', hr, rfl, hR4⟩ | ⟨hr, rfl⟩⟩
        · unfold saidL at hr
          obtain ⟨z, hz, hv⟩ := Option.map_eq_some_iff.1 hr
          cases hv
          obtain ⟨q0, q1, q2, q3, q4⟩ := hR4.cells
          obtain ⟨f0, f1, f2, f3, f4⟩ := hR4.free
          have HR5 := Lib.hid ((hR4.setK 5).setT ⟨z.1.toArray⟩)
          have HG5 := Lib.hid (grew_set (grew_set (HG3.out.trans hG4) 0 (.int .i64 5)) 2 (.string ⟨z.1.toArray⟩))
          have HZ := Lib.hid hz
          clear hr hR4 hG4 hz
          go_wp2_with fail
          refine bodyPost_ret (results_none rfl _ _ _) rfl ?_
          refine OutT.yes ?_ HR5.out HG5.out
          rw [HRR.out, HZ.out]
        · refine ⟨rfl, ?_⟩
          refine OutT.no ?_ (HG3.out.trans hG4)
          unfold saidL at hr
          rw [Option.map_eq_none_iff] at hr
          rw [HRR.out, hr]
      · have hxe : ((x.toNat : Int) == 34) = false := by rw [cmpE (k := 34) 34 rfl]; simp [hq34]
        by_cases h5 : 0 ≤ j2
        · have hlo := K2.out ▸ h5
          have h2 := HRR.out
          rw [tokC, if_neg hsg, if_neg hq34, if_pos hlo] at h2
          have HRR := Lib.hid h2
          have HS := Lib.hid (word_any hR3)
          have HG3 := Lib.hid hG3
          clear hR3 hG3 h2 hsg hq34 q0 q1 q2 q3 q4 f0 f1 f2 f3 f4 hlo
          go_wp2_with (go_at_call 37; first | ((with_reducible refine (HI1.out _).mono ?_); rintro e' _ ⟨rfl, rfl⟩) | ((with_reducible refine (HI2.out _).mono ?_); rintro e' _ ⟨rfl, rfl⟩))
          go_at_call 39
          refine HS.out.mono ?_
          rintro e' W4 ⟨hG4, ⟨v, p', hr, rfl, hR4⟩ | ⟨hr, rfl⟩⟩
          · unfold wordL at hr
            split at hr
            · cases hr
            · rename_i hk
              cases hr
              obtain ⟨q0, q1, q2, q3, q4⟩ := hR4.cells
              obtain ⟨f0, f1, f2, f3, f4⟩ := hR4.free
              have HR5 := Lib.hid (hR4.setK (wordK (runL s lowB q)))
              have HG5 := Lib.hid (grew_set (HG3.out.trans hG4) 0 (.int .i64 (wordK (runL s lowB q))))
              have HZ := Lib.hid hk
              clear hR4 hG4 hk
              go_wp2_with fail
              refine bodyPost_ret (results_none rfl _ _ _) rfl ?_
              refine OutT.yes ?_ HR5.out HG5.out
              rw [HRR.out, if_neg HZ.out]
          · refine ⟨rfl, ?_⟩
            refine OutT.no ?_ (HG3.out.trans hG4)
            unfold wordL at hr
            split at hr
            · rename_i hk
              rw [HRR.out, if_pos hk]
            · cases hr
        · have hlo : ¬ lowB.contains x = true := K2.out ▸ h5
          by_cases h7 : 0 ≤ j3
          · have hnu := K3.out ▸ h7
            have h2 := HRR.out
            rw [tokC, if_neg hsg, if_neg hq34, if_neg hlo, if_pos hnu] at h2
            have HRR := Lib.hid h2
            have HS := Lib.hid (number_any hR3)
            have HG3 := Lib.hid hG3
            clear hR3 hG3 h2 hsg hq34 q0 q1 q2 q3 q4 f0 f1 f2 f3 f4 hlo hnu
            go_wp2_with (go_at_call 37; first | ((with_reducible refine (HI1.out _).mono ?_); rintro e' _ ⟨rfl, rfl⟩) | ((with_reducible refine (HI2.out _).mono ?_); rintro e' _ ⟨rfl, rfl⟩) | ((with_reducible refine (HI3.out _).mono ?_); rintro e' _ ⟨rfl, rfl⟩))
            go_at_call 40
            refine HS.out.mono ?_
            rintro e' W4 ⟨hG4, ⟨v, p', hr, rfl, hR4⟩ | ⟨hr, rfl⟩⟩
            · unfold numL at hr
              split at hr
              · rename_i hk
                cases hr
                obtain ⟨q0, q1, q2, q3, q4⟩ := hR4.cells
                obtain ⟨f0, f1, f2, f3, f4⟩ := hR4.free
                have HR5 := Lib.hid ((hR4.setK 4).setT ⟨(runL s numsB q).toArray⟩)
                have HG5 := Lib.hid (grew_set (grew_set (HG3.out.trans hG4) 0 (.int .i64 4)) 2 (.string ⟨(runL s numsB q).toArray⟩))
                have HZ := Lib.hid hk
                clear hR4 hG4 hk
                go_wp2_with fail
                refine bodyPost_ret (results_none rfl _ _ _) rfl ?_
                refine OutT.yes ?_ HR5.out HG5.out
                rw [HRR.out, if_pos HZ.out]
              · cases hr
            · refine ⟨rfl, ?_⟩
              refine OutT.no ?_ (HG3.out.trans hG4)
              unfold numL at hr
              split at hr
              · cases hr
              · rename_i hk
                rw [HRR.out, if_neg hk]
          · have hnu : ¬ numsB.contains x = true := K3.out ▸ h7
            have h2 := HRR.out
            rw [tokC, if_neg hsg, if_neg hq34, if_neg hlo, if_neg hnu] at h2
            have HRR := Lib.hid h2
            have HG3 := Lib.hid hG3
            clear hR3 hG3 h2 hsg hq34 hlo hnu
            go_wp2_with (first
              | (go_at_call 37; first | ((with_reducible refine (HI1.out _).mono ?_); rintro e' _ ⟨rfl, rfl⟩) | ((with_reducible refine (HI2.out _).mono ?_); rintro e' _ ⟨rfl, rfl⟩) | ((with_reducible refine (HI3.out _).mono ?_); rintro e' _ ⟨rfl, rfl⟩))
              | (go_at_call 41; (with_reducible refine (HW.out _).mono ?_); rintro e' Wk ⟨rfl, hBi⟩; have HB2 := Lib.hid hBi; clear hBi))
            exact ⟨rfl, OutT.no HRR.out (HG3.out.trans (grew_of HB2.out _))⟩
  · have hqe : q = s.length := by omega
    have hne : ((q : Int) == (s.length : Int)) = true := by rw [beq_iff_eq]; omega
    go_quiet (fail)
    go_wp2_with fail
    refine bodyPost_ret (results_none rfl _ _ _) rfl ?_
    subst hqe
    refine OutT.yes ?_ (HR2.out.drewN _) (grew_drewN HG2.out _)
    rw [HRR.out, List.getElem?_eq_none (Nat.le_refl _)]
end Go.Proofs.YtmjooghfghmngaaDoor
