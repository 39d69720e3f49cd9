/- Layer frame's program: Open. -/
import Derived.Test.YtdnfijhclikkfaaDoorFSeal
namespace Go.Proofs.YtdnfijhclikkfaaDoor
open Go.RowKit Go.Lib

theorem num_at {W : World} {A : Option Addr} {c : Nat} {s : List UInt8} (pi ki : Int) (p k : Nat) (ep : pi = (p : Int)) (ek : ki = (k : Int)) (hB : BytesAt W A s.length s) (hc : s.length ≤ c) (hcm : c ≤ 9223372036854775807) (h1 : 1 ≤ k) (h2 : k ≤ 7) (hs : p + k ≤ s.length) (hm : s.length ≤ 140737488355328) :
    Calls Tryd.prog 14 #[.slice A s.length c, .int .i64 pi, .int .i64 ki] W fun e w' => e = .returned (.tuple #[.int .i64 (numL ((s.drop p).take k) : Nat), .int .i64 0]) ∧ w' = W := by
  subst ep ek; exact num_good p k hB hc hcm h1 h2 hs hm
theorem run_from_at (pi : Int) (A : Option Addr) (n c p : Nat) (ep : pi = (p : Int)) (hp : p ≤ n) (w : World) :
    (Instr.slice 22 (.slice A n c) (some (.int .i64 pi)) none none).run Tryd.prog w = .ok (.slice (advA A c p) (n - p) (c - p)) w := by
  subst ep; exact run_from A n c p hp w
theorem run_range_at (pi mi : Int) (A : Option Addr) (n c p m : Nat) (ep : pi = (p : Int)) (em : mi = (m : Int)) (hp : p ≤ m) (hm : m ≤ n) (hn : n ≤ c) (w : World) :
    (Instr.slice 22 (.slice A n c) (some (.int .i64 pi)) (some (.int .i64 mi)) none).run Tryd.prog w = .ok (.slice (advA A c p) (m - p) (c - p)) w := by
  subst ep em; exact run_range A n c p m hp hm hn w
set_option maxHeartbeats 1000000 in
theorem open_short {W : World} {A : Option Addr} {c n : Nat} (h : n ≠ 512) :
    Calls Tryd.prog 19 #[.slice A n c] W fun e w' => e = .returned (.tuple #[.int .i64 0, .slice none 0 0, .int .i64 14]) ∧ w' = W := by
  have h1 : ((n : Int) != 512) = true := by rw [bne_iff_ne]; omega
  clear h
  go_enter Tryd.func19, Tryd.ntmps19
  go_wp2_with fail
  refine bodyPost_ret (v := .tuple #[.int .i64 0, .slice none 0 0, .int .i64 14]) ?_ rfl ⟨rfl, rfl⟩
  simp [results, Tryd.results19, go_sem]
set_option maxHeartbeats 4000000 in
theorem open_sum {W : World} (hE : Env W) {A : Option Addr} {c : Nat} {s : List UInt8} (hB : BytesAt W A s.length s) (hc : s.length ≤ c) (hcm : c ≤ 9223372036854775807) (h512 : s.length = 512) (h : numL (s.take 4) ≠ sumB (s.drop 4)) :
    Calls Tryd.prog 19 #[.slice A s.length c] W fun e w' => e = .returned (.tuple #[.int .i64 0, .slice none 0 0, .int .i64 13]) ∧ w' = W := by
  have hne : (((numL (s.take 4) : Nat) : Int) != ((sumB (s.drop 4) : Nat) : Int)) = true := by rw [bne_iff_ne]; omega
  have hn1 := num_at (A := A) (c := c) 0 4 0 4 rfl rfl hB hc hcm (by decide) (by decide) (by omega) (by omega)
  have hn2 := num_at (A := A) (c := c) 4 1 4 1 rfl rfl hB hc hcm (by decide) (by decide) (by omega) (by omega)
  have hn3 := num_at (A := A) (c := c) 5 2 5 2 rfl rfl hB hc hcm (by decide) (by decide) (by omega) (by omega)
  have hr4 := run_from_at 4 A s.length c 4 rfl (by omega)
  have hY4 := adv_bytes (c := c) hB (show 4 ≤ s.length by omega) hc
  have hd4 : (s.drop 4).length = 508 := by rw [List.length_drop]; omega
  have hS := Sum_any (A := advA A c 4) (c := c - 4) hE (s := s.drop 4) (by rw [hd4]; rw [show s.length - 4 = 508 by omega] at hY4; exact hY4) (by omega)
  rw [hd4] at hS
  rw [show s.length - 4 = 508 by omega] at hr4
  have hcv : IntKind.i64.wrap ((sumB (s.drop 4) : Nat) : Int) = ((sumB (s.drop 4) : Nat) : Int) := IntWalk.i64_in _ (by have := sumB_lt (s.drop 4); omega)
  rw [List.drop_zero] at hn1
  rw [h512] at hn1 hn2 hn3 hr4 ⊢
  have H1 := Lib.hid hn1
  have H2 := Lib.hid hn2
  have H3 := Lib.hid hn3
  have HS := Lib.hid hS
  have HB := Lib.hid hB
  have HE := Lib.hid hE
  clear hn1 hn2 hn3 hS hB hE hY4 h hd4 hcm
  generalize numL (s.take 4) = S1 at *
  generalize sumB (s.drop 4) = S2 at *
  go_enter Tryd.func19, Tryd.ntmps19
  go_wp2_with (first
    | (go_at_call 14; (with_reducible refine H1.out.mono ?_); rintro e' wz ⟨rfl, hwz⟩; have hwz := hwz.symm; subst hwz)
    | (go_at_call 14; (with_reducible refine H2.out.mono ?_); rintro e' wz ⟨rfl, hwz⟩; have hwz := hwz.symm; subst hwz)
    | (go_at_call 14; (with_reducible refine H3.out.mono ?_); rintro e' wz ⟨rfl, hwz⟩; have hwz := hwz.symm; subst hwz)
    | (go_at_call 10; (with_reducible refine HS.out.mono ?_); rintro e' wz ⟨rfl, hwz⟩; have hwz := hwz.symm; subst hwz))
  refine bodyPost_ret (v := .tuple #[.int .i64 0, .slice none 0 0, .int .i64 13]) ?_ rfl ⟨rfl, rfl⟩
  simp [results, Tryd.results19, go_sem]
set_option maxHeartbeats 4000000 in
theorem open_kind {W : World} (hE : Env W) {A : Option Addr} {c : Nat} {s : List UInt8} (hB : BytesAt W A s.length s) (hc : s.length ≤ c) (hcm : c ≤ 9223372036854775807) (h512 : s.length = 512) (h : numL (s.take 4) = sumB (s.drop 4)) (hk : numL ((s.drop 4).take 1) = 0 ∨ 505 < numL ((s.drop 5).take 2)) :
    Calls Tryd.prog 19 #[.slice A s.length c] W fun e w' => e = .returned (.tuple #[.int .i64 0, .slice none 0 0, .int .i64 11]) ∧ w' = W := by
  have hn1 := num_at (A := A) (c := c) 0 4 0 4 rfl rfl hB hc hcm (by decide) (by decide) (by omega) (by omega)
  have hn2 := num_at (A := A) (c := c) 4 1 4 1 rfl rfl hB hc hcm (by decide) (by decide) (by omega) (by omega)
  have hn3 := num_at (A := A) (c := c) 5 2 5 2 rfl rfl hB hc hcm (by decide) (by decide) (by omega) (by omega)
  have hr4 := run_from_at 4 A s.length c 4 rfl (by omega)
  have hY4 := adv_bytes (c := c) hB (show 4 ≤ s.length by omega) hc
  have hd4 : (s.drop 4).length = 508 := by rw [List.length_drop]; omega
  have hS := Sum_any (A := advA A c 4) (c := c - 4) hE (s := s.drop 4) (by rw [hd4]; rw [show s.length - 4 = 508 by omega] at hY4; exact hY4) (by omega)
  rw [hd4] at hS
  rw [show s.length - 4 = 508 by omega] at hr4
  have hcv : IntKind.i64.wrap ((sumB (s.drop 4) : Nat) : Int) = ((sumB (s.drop 4) : Nat) : Int) := IntWalk.i64_in _ (by have := sumB_lt (s.drop 4); omega)
  rw [List.drop_zero] at hn1
  rw [h512] at hn1 hn2 hn3 hr4 ⊢
  have H1 := Lib.hid hn1
  have H2 := Lib.hid hn2
  have H3 := Lib.hid hn3
  have HS := Lib.hid hS
  have HB := Lib.hid hB
  have HE := Lib.hid hE
  rw [h] at H1
  clear hn1 hn2 hn3 hS hB hE hY4 h hd4 hcm
  generalize sumB (s.drop 4) = S2 at *
  have hne : ((S2 : Int) != (S2 : Int)) = false := by simp
  generalize numL ((s.drop 4).take 1) = K at *
  generalize numL ((s.drop 5).take 2) = L at *
  by_cases h0 : K = 0
  · subst h0
    clear hk
    go_enter Tryd.func19, Tryd.ntmps19
    go_wp2_with (first
      | (go_at_call 14; (with_reducible refine H1.out.mono ?_); rintro e' wz ⟨rfl, hwz⟩; have hwz := hwz.symm; subst hwz)
      | (go_at_call 14; (with_reducible refine H2.out.mono ?_); rintro e' wz ⟨rfl, hwz⟩; have hwz := hwz.symm; subst hwz)
      | (go_at_call 14; (with_reducible refine H3.out.mono ?_); rintro e' wz ⟨rfl, hwz⟩; have hwz := hwz.symm; subst hwz)
      | (go_at_call 10; (with_reducible refine HS.out.mono ?_); rintro e' wz ⟨rfl, hwz⟩; have hwz := hwz.symm; subst hwz))
    refine bodyPost_ret (v := .tuple #[.int .i64 0, .slice none 0 0, .int .i64 11]) ?_ rfl ⟨rfl, rfl⟩
    simp [results, Tryd.results19, go_sem]
  · have hK : ((K : Int) == 0) = false := by rw [beq_eq_false_iff_ne]; omega
    have hL : (505 : Int) < (L : Int) := by omega
    clear hk h0
    go_enter Tryd.func19, Tryd.ntmps19
    go_wp2_with (first
      | (go_at_call 14; (with_reducible refine H1.out.mono ?_); rintro e' wz ⟨rfl, hwz⟩; have hwz := hwz.symm; subst hwz)
      | (go_at_call 14; (with_reducible refine H2.out.mono ?_); rintro e' wz ⟨rfl, hwz⟩; have hwz := hwz.symm; subst hwz)
      | (go_at_call 14; (with_reducible refine H3.out.mono ?_); rintro e' wz ⟨rfl, hwz⟩; have hwz := hwz.symm; subst hwz)
      | (go_at_call 10; (with_reducible refine HS.out.mono ?_); rintro e' wz ⟨rfl, hwz⟩; have hwz := hwz.symm; subst hwz))
    refine bodyPost_ret (v := .tuple #[.int .i64 0, .slice none 0 0, .int .i64 11]) ?_ rfl ⟨rfl, rfl⟩
    simp [results, Tryd.results19, go_sem]
set_option maxHeartbeats 4000000 in
theorem open_rest {W : World} (hE : Env W) {A : Option Addr} {c : Nat} {s : List UInt8} (hB : BytesAt W A s.length s) (hc : s.length ≤ c) (hcm : c ≤ 9223372036854775807) (h512 : s.length = 512) (h : numL (s.take 4) = sumB (s.drop 4)) (hk : numL ((s.drop 4).take 1) ≠ 0) (hl : numL ((s.drop 5).take 2) ≤ 505) :
    Calls Tryd.prog 19 #[.slice A s.length c] W fun e w' => if (s.drop (7 + numL ((s.drop 5).take 2))).all (· == 0) = true then ∃ v, e = .returned (.tuple #[.int .i64 (numL ((s.drop 4).take 1) : Nat), v, .int .i64 0]) ∧ BRow W v ((s.drop 7).take (numL ((s.drop 5).take 2))) w'
      else e = .returned (.tuple #[.int .i64 0, .slice none 0 0, .int .i64 11]) ∧ w' = W := by
  have hn1 := num_at (A := A) (c := c) 0 4 0 4 rfl rfl hB hc hcm (by decide) (by decide) (by omega) (by omega)
  have hn2 := num_at (A := A) (c := c) 4 1 4 1 rfl rfl hB hc hcm (by decide) (by decide) (by omega) (by omega)
  have hn3 := num_at (A := A) (c := c) 5 2 5 2 rfl rfl hB hc hcm (by decide) (by decide) (by omega) (by omega)
  have hr4 := run_from_at 4 A s.length c 4 rfl (by omega)
  have hY4 := adv_bytes (c := c) hB (show 4 ≤ s.length by omega) hc
  have hd4 : (s.drop 4).length = 508 := by rw [List.length_drop]; omega
  have hS := Sum_any (A := advA A c 4) (c := c - 4) hE (s := s.drop 4) (by rw [hd4]; rw [show s.length - 4 = 508 by omega] at hY4; exact hY4) (by omega)
  rw [hd4] at hS
  rw [show s.length - 4 = 508 by omega] at hr4
  have hcv : IntKind.i64.wrap ((sumB (s.drop 4) : Nat) : Int) = ((sumB (s.drop 4) : Nat) : Int) := IntWalk.i64_in _ (by have := sumB_lt (s.drop 4); omega)
  rw [List.drop_zero] at hn1
  rw [h512] at hn1 hn2 hn3 hr4 ⊢
  have H1 := Lib.hid hn1
  have H2 := Lib.hid hn2
  have H3 := Lib.hid hn3
  have HS := Lib.hid hS
  have HB := Lib.hid hB
  have HE := Lib.hid hE
  rw [h] at H1
  generalize hLL : numL ((s.drop 5).take 2) = L at *
  have hr7 := run_from_at (7 + (L : Int)) A s.length c (7 + L) (by omega) (by omega)
  have hY7 := adv_bytes (c := c) hB (show 7 + L ≤ s.length by omega) hc
  have hdl : (s.drop (7 + L)).length = 512 - (7 + L) := by rw [List.length_drop]; omega
  have hno := noughts_any (A := advA A c (7 + L)) (c := c - (7 + L)) (s := s.drop (7 + L)) (by rw [hdl, ← h512]; exact hY7) (by omega)
  have hr9 := run_range_at 7 (7 + (L : Int)) A s.length c 7 (7 + L) rfl (by omega) (by omega) (by omega) hc
  have hw7 : IntKind.i64.wrap (7 + (L : Int)) = 7 + (L : Int) := IntWalk.i64_in _ (by omega)
  rw [hdl] at hno
  rw [h512] at hr7 hr9
  rw [show 7 + L - 7 = L by omega] at hr9
  have hY9 : BytesAt W (advA A c 7) ((s.drop 7).take L).length ((s.drop 7).take L) := fun h0 => by
    have hA := adv_bytes (c := c) hB (show 7 ≤ s.length by omega) hc
    have hlt : ((s.drop 7).take L).length = L := by simp; omega
    obtain ⟨g, o, e, hh⟩ := hA (by omega)
    refine ⟨g, o, e, fun i hi => ?_⟩
    rw [hh i (by omega), List.getD_eq_getElem?_getD, List.getD_eq_getElem?_getD, List.getElem?_take_of_lt (by omega)]
  have hlt : ((s.drop 7).take L).length = L := by simp; omega
  have hA9 : advA A c 7 = none → c - 7 = 0 := fun e => by
    have hA := adv_bytes (c := c) hB (show 7 ≤ s.length by omega) hc
    obtain ⟨g, o, e2, hh⟩ := hA (by omega)
    rw [e] at e2; cases e2
  have hcl := Clone_any (A := advA A c 7) (c := c - 7) hY9 hA9 (by omega)
  rw [hlt] at hcl
  have HNO := Lib.hid hno
  have HCL := Lib.hid hcl
  clear hn1 hn2 hn3 hS hB hE hY4 h hd4 hcm hno hcl hA9 hlt hY9 hdl hY7 hLL
  generalize sumB (s.drop 4) = S2 at *
  have hne : ((S2 : Int) != (S2 : Int)) = false := by simp
  generalize numL ((s.drop 4).take 1) = K at *
  have hK : ((K : Int) == 0) = false := by rw [beq_eq_false_iff_ne]; omega
  have hL : ¬ (505 : Int) < (L : Int) := by omega
  clear hk
  generalize advA A c 4 = A4 at *
  generalize advA A c 7 = A7 at *
  generalize advA A c (7 + L) = A9 at *
  generalize (s.drop 7).take L = d at *
  cases hq : (s.drop (7 + L)).all (· == 0) with
  | false =>
    rw [hq] at HNO
    suffices h : Calls Tryd.prog 19 #[.slice A 512 c] W fun e w' => e = .returned (.tuple #[.int .i64 0, .slice none 0 0, .int .i64 11]) ∧ w' = W from h.mono fun e w' hh => by simpa using hh
    clear hq
    go_enter Tryd.func19, Tryd.ntmps19
    go_wp2_with (first
      | (go_at_call 14; (with_reducible refine H1.out.mono ?_); rintro e' wz ⟨rfl, hwz⟩; have hwz := hwz.symm; subst hwz)
      | (go_at_call 14; (with_reducible refine H2.out.mono ?_); rintro e' wz ⟨rfl, hwz⟩; have hwz := hwz.symm; subst hwz)
      | (go_at_call 14; (with_reducible refine H3.out.mono ?_); rintro e' wz ⟨rfl, hwz⟩; have hwz := hwz.symm; subst hwz)
      | (go_at_call 10; (with_reducible refine HS.out.mono ?_); rintro e' wz ⟨rfl, hwz⟩; have hwz := hwz.symm; subst hwz)
      | (go_at_call 23; (with_reducible refine HNO.out.mono ?_); rintro e' wz ⟨rfl, hwz⟩; have hwz := hwz.symm; subst hwz))
    refine bodyPost_ret (v := .tuple #[.int .i64 0, .slice none 0 0, .int .i64 11]) ?_ rfl ⟨rfl, rfl⟩
    simp [results, Tryd.results19, go_sem]
  | true =>
    rw [hq] at HNO
    suffices h : Calls Tryd.prog 19 #[.slice A 512 c] W fun e w' => ∃ v, e = .returned (.tuple #[.int .i64 (K : Nat), v, .int .i64 0]) ∧ BRow W v d w' from h.mono fun e w' hh => by simpa using hh
    clear hq
    go_enter Tryd.func19, Tryd.ntmps19
    go_wp2_with (first
      | (go_at_call 14; (with_reducible refine H1.out.mono ?_); rintro e' wz ⟨rfl, hwz⟩; have hwz := hwz.symm; subst hwz)
      | (go_at_call 14; (with_reducible refine H2.out.mono ?_); rintro e' wz ⟨rfl, hwz⟩; have hwz := hwz.symm; subst hwz)
      | (go_at_call 14; (with_reducible refine H3.out.mono ?_); rintro e' wz ⟨rfl, hwz⟩; have hwz := hwz.symm; subst hwz)
      | (go_at_call 10; (with_reducible refine HS.out.mono ?_); rintro e' wz ⟨rfl, hwz⟩; have hwz := hwz.symm; subst hwz)
      | (go_at_call 23; (with_reducible refine HNO.out.mono ?_); rintro e' wz ⟨rfl, hwz⟩; have hwz := hwz.symm; subst hwz)
      | (go_at_call 22; (with_reducible refine HCL.out.mono ?_); rintro e' w1 ⟨v1, rfl, hR1⟩; have HR1 := Lib.hid hR1; clear hR1))
    refine bodyPost_ret (v := .tuple #[.int .i64 (K : Nat), v1, .int .i64 0]) ?_ rfl ⟨v1, rfl, HR1.out⟩
    simp [results, Tryd.results19, go_sem]
theorem Open_any {W : World} (hE : Env W) {A : Option Addr} {c : Nat} {s : List UInt8} (hB : BytesAt W A s.length s) (hc : s.length ≤ c) (hcm : c ≤ 9223372036854775807) :
    Calls Tryd.prog 19 #[.slice A s.length c] W fun e w' => ∃ v, e = .returned (.tuple #[.int .i64 (opK s : Nat), v, .int .i64 (opE s)]) ∧ BRow W v (opD s) w' := by
  by_cases h1 : s.length = 512
  · by_cases h2 : numL (s.take 4) = sumB (s.drop 4)
    · by_cases h3 : numL ((s.drop 4).take 1) = 0 ∨ 505 < numL ((s.drop 5).take 2)
      · have he : opE s = 11 := by unfold opE; rw [if_neg (by omega), if_neg (by omega), if_pos (h3.elim .inl fun h => .inr (.inl h))]; rfl
        have hk : opK s = 0 := by unfold opK; rw [if_neg (by rw [he]; decide)]
        have hd : opD s = [] := by unfold opD; rw [if_neg (by rw [he]; decide)]
        rw [he, hk, hd]
        exact (open_kind hE hB hc hcm h1 h2 h3).mono fun e w' ⟨h, hw⟩ => ⟨_, h, hw ▸ BRow.none W⟩
      · refine (open_rest hE hB hc hcm h1 h2 (by omega) (by omega)).mono fun e w' h => ?_
        cases hq : (s.drop (7 + numL ((s.drop 5).take 2))).all (· == 0) with
        | false =>
          rw [hq, if_neg (by decide)] at h
          have he : opE s = 11 := by unfold opE; rw [if_neg (by omega), if_neg (by omega), if_pos (.inr (.inr (by rw [hq]; decide)))]; rfl
          have hk : opK s = 0 := by unfold opK; rw [if_neg (by rw [he]; decide)]
          have hd : opD s = [] := by unfold opD; rw [if_neg (by rw [he]; decide)]
          rw [he, hk, hd]
          exact ⟨_, h.1, h.2 ▸ BRow.none W⟩
        | true =>
          rw [hq, if_pos rfl] at h
          have he : opE s = 0 := by unfold opE; rw [if_neg (by omega), if_neg (by omega), if_neg (by rw [hq]; rintro (h | h | h) <;> first | omega | exact h rfl)]
          rw [he, show opK s = numL ((s.drop 4).take 1) by unfold opK; rw [if_pos he], show opD s = (s.drop 7).take (numL ((s.drop 5).take 2)) by unfold opD; rw [if_pos he]]
          exact h
    · have he : opE s = 13 := by unfold opE; rw [if_neg (by omega), if_pos h2]; rfl
      have hk : opK s = 0 := by unfold opK; rw [if_neg (by rw [he]; decide)]
      have hd : opD s = [] := by unfold opD; rw [if_neg (by rw [he]; decide)]
      rw [he, hk, hd]
      exact (open_sum hE hB hc hcm h1 h2).mono fun e w' ⟨h, hw⟩ => ⟨_, h, hw ▸ BRow.none W⟩
  · have he : opE s = 14 := by unfold opE; rw [if_pos h1]; rfl
    have hk : opK s = 0 := by unfold opK; rw [if_neg (by rw [he]; decide)]
    have hd : opD s = [] := by unfold opD; rw [if_neg (by rw [he]; decide)]
    rw [he, hk, hd]
    exact (open_short h1).mono fun e w' ⟨h, hw⟩ => ⟨_, h, hw ▸ BRow.none W⟩
end Go.Proofs.YtdnfijhclikkfaaDoor
