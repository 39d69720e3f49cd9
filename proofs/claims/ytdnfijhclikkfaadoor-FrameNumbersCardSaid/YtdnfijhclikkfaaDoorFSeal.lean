/- Layer frame's program: Seal and Open. -/
import Derived.Test.YtdnfijhclikkfaaDoorFPutN
import Derived.Deep.Onto
namespace Go.Proofs.YtdnfijhclikkfaaDoor
open Go.RowKit Go.Lib

theorem BRow.up {w w4 w6 : World} {v : Value} {l : List UInt8} (h : BRow w4 v l w6) (hb : Below w.heap.size w w4) : BRow w v l w6 :=
  ⟨hb.trans (h.1.mono hb.size), h.2.mono hb.size⟩
theorem BytesAt.on {W W' : World} {A : Option Addr} {n : Nat} {s : List UInt8} (h : BytesAt W A n s) (hb : Below W.heap.size W W') : BytesAt W' A n s := bytes_on h (grew_of hb none) (fun _ _ => by simp)
theorem nil_at (W : World) : BytesAt W none ([] : List UInt8).length [] := fun h => absurd h (by simp)
theorem BRow.some {w0 W : World} {v : Value} {l : List UInt8} (h : BRow w0 v l W) (hl : 0 < l.length) : ∃ g c, v = .slice (some ⟨g, 0, Option.none⟩) l.length c ∧ w0.heap.size ≤ g ∧ g < W.heap.size ∧ l.length ≤ c ∧ c ≤ maxLen := by
  rcases h.2.2 with ⟨rfl, h0⟩ | ⟨g, cap, cur, rfl, hg0, hg, hn, hm, _⟩
  · omega
  · exact ⟨g, cap, rfl, hg0, blk_lt hg, hn, hm⟩
theorem BRow.nil {w0 W : World} {A : Option Addr} {n c : Nat} {l : List UInt8} (h : BRow w0 (.slice A n c) l W) : A = Option.none → c = 0 := fun e => by
  subst e
  rcases h.2.2 with ⟨h1, -⟩ | ⟨g, cap, cur, h1, -⟩
  · simp only [Value.slice.injEq] at h1; exact h1.2.2
  · simp at h1
/-- PutNum of no bytes. -/
theorem PutNum_nil {W : World} (n k : Nat) (h1 : 1 ≤ k) (h8 : k ≤ 7) (h : n < 256 ^ k) :
    Calls Tryd.prog 13 #[.slice none 0 0, .int .i64 (n : Nat), .int .i64 (k : Nat)] W fun e w' => ∃ v, e = .returned v ∧ BRow W v (putL n k) w' := by
  have h7 : (256 : Nat) ^ k ≤ 256 ^ 7 := Nat.pow_le_pow_right (show 0 < 256 by decide) h8
  have h3 : (256 : Nat) ^ 7 = 72057594037927936 := by decide
  have := PutNum_any (A := none) (c := 0) (s := []) (n : Int) (k : Int) (nil_at W) (fun _ => rfl) (by simp) (by omega)
  rw [putB_nat [] n k h1 (by omega) h, List.nil_append] at this
  exact this
set_option maxHeartbeats 1000000 in
theorem seal_arg {W : World} {A : Option Addr} {c n : Nat} (k : Int) (h : k < 1 ∨ 255 < k) :
    Calls Tryd.prog 17 #[.int .i64 k, .slice A n c] W fun e w' => e = .returned (.tuple #[.slice none 0 0, .int .i64 1]) ∧ w' = W := by
  by_cases h1 : k < 1
  · go_enter Tryd.func17, Tryd.ntmps17
    go_wp2_with fail
    refine bodyPost_ret (v := .tuple #[.slice none 0 0, .int .i64 1]) ?_ rfl ⟨rfl, rfl⟩
    simp [results, Tryd.results17, go_sem]
  · have h2 : 255 < k := by omega
    clear h
    go_enter Tryd.func17, Tryd.ntmps17
    go_wp2_with fail
    refine bodyPost_ret (v := .tuple #[.slice none 0 0, .int .i64 1]) ?_ rfl ⟨rfl, rfl⟩
    simp [results, Tryd.results17, go_sem]
set_option maxHeartbeats 1000000 in
theorem seal_large {W : World} {A : Option Addr} {c n : Nat} (k : Int) (h1 : 1 ≤ k) (h2 : k ≤ 255) (hn : 505 < n) :
    Calls Tryd.prog 17 #[.int .i64 k, .slice A n c] W fun e w' => e = .returned (.tuple #[.slice none 0 0, .int .i64 12]) ∧ w' = W := by
  have g1 : ¬ k < 1 := by omega
  have g2 : ¬ 255 < k := by omega
  have g3 : (505 : Int) < (n : Int) := by omega
  clear h1 h2 hn
  go_enter Tryd.func17, Tryd.ntmps17
  go_wp2_with fail
  refine bodyPost_ret (v := .tuple #[.slice none 0 0, .int .i64 12]) ?_ rfl ⟨rfl, rfl⟩
  simp [results, Tryd.results17, go_sem]
set_option maxHeartbeats 4000000 in
theorem seal_good {W : World} (hE : Env W) {A : Option Addr} {c : Nat} {s : List UInt8} (k : Nat) (hB : BytesAt W A s.length s) (hn : A = none → c = 0) (h1 : 1 ≤ k) (h2 : k ≤ 255) (hs : s.length ≤ 505) :
    Calls Tryd.prog 17 #[.int .i64 (k : Nat), .slice A s.length c] W fun e w' => ∃ v, e = .returned (.tuple #[v, .int .i64 0]) ∧ BRow W v (sealL k s) w' := by
  have HE := Lib.hid hE
  have HY := Lib.hid (fun W' hb => hB.on (W' := W') hb)
  have HN := Lib.hid hn
  have g1 : ¬ (k : Int) < 1 := by omega
  have g2 : ¬ (255 : Int) < (k : Int) := by omega
  have g3 : ¬ (505 : Int) < (s.length : Int) := by omega
  have hz : IntKind.i64.wrap (505 - (s.length : Int)) = ((505 - s.length : Nat) : Int) := by rw [IntWalk.i64_in _ (by omega)]; omega
  have HP1 := Lib.hid (PutNum_nil (W := W) k 1 (by decide) (by decide) (by omega))
  clear hE hB hn
  go_enter Tryd.func17, Tryd.ntmps17
  go_wp2_with fail
  go_at_call 13
  refine HP1.out.mono ?_
  rintro e' w1 ⟨v1, rfl, hR1⟩
  obtain ⟨A1, c1, rfl, hY1, hb1, hl1, hm1⟩ := hR1.at
  have HP2 := Lib.hid (PutNum_any (W := w1) (c := c1) (s.length : Int) 2 hY1 (fun e => by
    subst e
    obtain ⟨g, o, e, _⟩ := hY1 (by rw [putL_len]; decide)
    cases e) (by rw [putL_len]; decide) (by omega))
  have HB1 := Lib.hid hR1.1
  have hq : putB (putL k 1) (s.length : Int) 2 = putL k 1 ++ putL s.length 2 := putB_nat _ _ 2 (by decide) (by decide) (by omega)
  rw [hq] at HP2
  clear hY1 hb1 hl1 hm1 hR1 hq
  go_wp2_with fail
  go_at_call 13
  refine HP2.out.mono ?_
  rintro e' w2 ⟨v2, rfl, hR2⟩
  have HR2 := Lib.hid (hR2.up HB1.out)
  have hl2 : (putL k 1 ++ putL s.length 2).length = 3 := by rw [List.length_append, putL_len, putL_len]
  clear hR2
  have HPL : Hid (restL k s = putL k 1 ++ putL s.length 2 ++ s ++ List.replicate (505 - s.length) 0) := rfl
  have hr4 : (restL k s).length = 508 := restL_len hs
  generalize putL k 1 ++ putL s.length 2 = l2 at *
  obtain ⟨l3, hl3⟩ : ∃ l3, l3 = l2 ++ s := ⟨_, rfl⟩
  have hn3 : l3.length = 3 + s.length := by rw [hl3, List.length_append, hl2]
  have HL3 := Lib.hid hl3
  have HN2 := Lib.hid hl2
  have HN3 := Lib.hid hn3
  rw [← hl3] at HPL
  have HZ3 := Lib.hid (show l3.length + (505 - s.length) ≤ 1000000 by omega)
  have HSL : Hid (sealL k s = putL (sumB (restL k s)) 4 ++ restL k s) := rfl
  have HSB := Lib.hid (sumB_lt (restL k s))
  generalize restL k s = r at *
  have HR4 := Lib.hid hr4
  have hcv : IntKind.i64.wrap ((sumB r : Nat) : Int) = ((sumB r : Nat) : Int) := IntWalk.i64_in _ (by have := HSB.out; omega)
  clear hl3 hn3 hl2 hr4
  go_wp2_with (at_builtin; go_must (first
    | (refine append_by HR2.out s A c (HY.out _ HR2.out.1) HN.out (by have := HN2.out; omega) rfl _ _ rfl rfl rfl ?_; rintro v3 w3 hR3; rw [← HL3.out] at hR3; obtain ⟨g3, c3, rfl, -, -, -, -⟩ := hR3.some (by have := HN3.out; omega); have HR3 := Lib.hid hR3; clear hR3)
    | (refine append_zeros HR3.out (505 - s.length) HZ3.out rfl _ _ rfl rfl rfl ?_; rintro v4 w4 hR4; rw [← HPL.out] at hR4; obtain ⟨A4, c4, rfl, hY4, hb4, hl4, hm4⟩ := hR4.at; have HR5 := Lib.hid hR4; have HY4 := Lib.hid hY4; clear hR4 hY4 hb4 hl4 hm4)))
  have HS := Lib.hid (Sum_any (c := c4) (HE.out.on HR5.out.1) HY4.out (by have := HR4.out; omega))
  have HP4 := Lib.hid (PutNum_nil (W := w4) (sumB r) 4 (by decide) (by decide) (by have := HSB.out; simpa using this))
  have HA4 : Hid (A4 = none → c4 = 0) := fun e => by
    subst e
    obtain ⟨g, o, e, _⟩ := HY4.out (by have := HR4.out; omega)
    cases e
  generalize sumB r = S at *
  go_at_call 10
  refine HS.out.mono ?_
  rintro e' wz ⟨rfl, hwz⟩
  have hwz := hwz.symm
  subst hwz
  go_wp2_with fail
  go_at_call 13
  refine HP4.out.mono ?_
  rintro e' w5 ⟨v5, rfl, hR5⟩
  have HP5 := Lib.hid hR5
  have HY5 := Lib.hid (HY4.out.on hR5.1)
  have HN5 := Lib.hid (show (putL S 4).length + r.length ≤ 140737488355328 by rw [putL_len]; have := HR4.out; omega)
  clear hR5
  go_wp2_with (at_builtin; go_must (refine append_by HP5.out r A4 c4 HY5.out HA4.out HN5.out rfl _ _ rfl rfl rfl ?_; rintro v6 w6 hR6; rw [← HSL.out] at hR6; have HR6 := Lib.hid hR6; clear hR6))
  refine bodyPost_ret (v := .tuple #[v6, .int .i64 0]) ?_ rfl ⟨v6, rfl, HR6.out.up HR5.out.1⟩
  simp [results, Tryd.results17, go_sem]
theorem Seal_any {W : World} (hE : Env W) {A : Option Addr} {c : Nat} {s : List UInt8} (k : Int) (hB : BytesAt W A s.length s) (hn : A = none → c = 0) :
    Calls Tryd.prog 17 #[.int .i64 k, .slice A s.length c] W fun e w' => ∃ v, e = .returned (.tuple #[v, .int .i64 (slE k s)]) ∧ BRow W v (slV k s) w' := by
  by_cases h1 : k < 1 ∨ 255 < k
  · have he : slE k s = 1 := by unfold slE; rw [if_pos h1]; rfl
    have hv : slV k s = [] := by unfold slV; rw [if_neg (by rw [he]; decide)]
    rw [he, hv]
    exact (seal_arg k h1).mono fun e w' ⟨h, hw⟩ => ⟨_, h, hw ▸ BRow.none W⟩
  · by_cases h2 : 505 < s.length
    · have he : slE k s = 12 := by unfold slE; rw [if_neg h1, if_pos h2]; rfl
      have hv : slV k s = [] := by unfold slV; rw [if_neg (by rw [he]; decide)]
      rw [he, hv]
      exact (seal_large k (by omega) (by omega) h2).mono fun e w' ⟨h, hw⟩ => ⟨_, h, hw ▸ BRow.none W⟩
    · have he : slE k s = 0 := by unfold slE; rw [if_neg h1, if_neg h2]
      have hv : slV k s = sealL k.toNat s := by unfold slV; rw [if_pos he]
      rw [he, hv]
      have := seal_good hE (A := A) (c := c) k.toNat hB hn (by omega) (by omega) (by omega)
      rwa [show ((k.toNat : Nat) : Int) = k by omega] at this
end Go.Proofs.YtdnfijhclikkfaaDoor
