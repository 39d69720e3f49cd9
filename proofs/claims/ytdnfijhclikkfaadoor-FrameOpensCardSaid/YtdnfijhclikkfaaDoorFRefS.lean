/- The document's Seal; the laws' own and their question. -/
import Derived.Test.YtdnfijhclikkfaaDoorFRefP
import Derived.Lib.SlBytesConst
namespace Go.Proofs.YtdnfijhclikkfaaDoor
open Go.RowKit Go.Lib

theorem rPut_nil {W : World} (n k : Nat) (h1 : 1 ≤ k) (h8 : k ≤ 7) (h : n < 256 ^ k) :
    Calls Tryd.prog 16 #[.slice none 0 0, .int .i64 (n : Nat), .int .i64 (k : Nat)] W fun e w' => ∃ v, e = .returned v ∧ BRow W v (putL n k) w' := by
  have h7 : (256 : Nat) ^ k ≤ 256 ^ 7 := Nat.pow_le_pow_right (show 0 < 256 by decide) h8
  have h3 : (256 : Nat) ^ 7 = 72057594037927936 := by decide
  have := ref_PutNum (A := none) (c := 0) (s := []) (n : Int) (k : Int) (nil_at W) (fun _ => rfl) (by simp) (by omega)
  rw [putB_nat [] n k h1 (by omega) h, List.nil_append] at this
  exact this
set_option maxHeartbeats 1000000 in
theorem rseal_arg {W : World} {A : Option Addr} {c n : Nat} (k : Int) (h : k < 1 ∨ 255 < k) :
    Calls Tryd.prog 18 #[.int .i64 k, .slice A n c] W fun e w' => e = .returned (.tuple #[.slice none 0 0, .int .i64 1]) ∧ w' = W := by
  by_cases h1 : k < 1
  · go_enter Tryd.func18, Tryd.ntmps18
    go_wp2_with fail
    refine bodyPost_ret (v := .tuple #[.slice none 0 0, .int .i64 1]) ?_ rfl ⟨rfl, rfl⟩
    simp [results, Tryd.results18, go_sem]
  · have h2 : 255 < k := by omega
    clear h
    go_enter Tryd.func18, Tryd.ntmps18
    go_wp2_with fail
    refine bodyPost_ret (v := .tuple #[.slice none 0 0, .int .i64 1]) ?_ rfl ⟨rfl, rfl⟩
    simp [results, Tryd.results18, go_sem]
set_option maxHeartbeats 1000000 in
theorem rseal_large {W : World} {A : Option Addr} {c n : Nat} (k : Int) (h1 : 1 ≤ k) (h2 : k ≤ 255) (hn : 505 < n) :
    Calls Tryd.prog 18 #[.int .i64 k, .slice A n c] W fun e w' => e = .returned (.tuple #[.slice none 0 0, .int .i64 12]) ∧ w' = W := by
  have g1 : ¬ k < 1 := by omega
  have g2 : ¬ 255 < k := by omega
  have g3 : (505 : Int) < (n : Int) := by omega
  clear h1 h2 hn
  go_enter Tryd.func18, Tryd.ntmps18
  go_wp2_with fail
  refine bodyPost_ret (v := .tuple #[.slice none 0 0, .int .i64 12]) ?_ rfl ⟨rfl, rfl⟩
  simp [results, Tryd.results18, go_sem]
theorem restL_cut (k : Nat) (s : List UInt8) : restL k s = ([UInt8.ofNat k, UInt8.ofNat (s.length / 256), UInt8.ofNat (s.length % 256)] ++ s) ++ List.replicate (505 - s.length) 0 := by
  have h1 : putL k 1 = [UInt8.ofNat k] := by show [UInt8.ofNat (k / 256 ^ 0)] = _; rw [Nat.pow_zero, Nat.div_one]
  have h2 : putL s.length 2 = [UInt8.ofNat (s.length / 256), UInt8.ofNat (s.length % 256)] := by
    show [UInt8.ofNat (s.length / 256 ^ 1), UInt8.ofNat (s.length / 256 ^ 0)] = _
    rw [Nat.pow_one, Nat.pow_zero, Nat.div_one]
    have : UInt8.ofNat s.length = UInt8.ofNat (s.length % 256) := by
      apply UInt8.toNat_inj.1
      rw [UInt8.toNat_ofNat', UInt8.toNat_ofNat']
      omega
    rw [this]
  unfold restL
  rw [h1, h2]
  rfl
set_option maxHeartbeats 4000000 in
theorem rseal_good {W : World} {A : Option Addr} {c : Nat} {s : List UInt8} (k : Nat) (hB : BytesAt W A s.length s) (hn : A = none → c = 0) (h1 : 1 ≤ k) (h2 : k ≤ 255) (hs : s.length ≤ 505) :
    Calls Tryd.prog 18 #[.int .i64 (k : Nat), .slice A s.length c] W fun e w' => ∃ v, e = .returned (.tuple #[v, .int .i64 0]) ∧ BRow W v (sealL k s) w' := by
  have HY := Lib.hid (fun W' hb => hB.on (W' := W') hb)
  have HN := Lib.hid hn
  have g1 : ¬ (k : Int) < 1 := by omega
  have g2 : ¬ (255 : Int) < (k : Int) := by omega
  have g3 : ¬ (505 : Int) < (s.length : Int) := by omega
  have hx1 : IntKind.u8.wrap (k : Int) = (((UInt8.ofNat k).toNat : Nat) : Int) := by rw [UInt8.toNat_ofNat', IntKind.wrap_u8']; omega
  have hq : ((s.length : Int)).tdiv 256 = ((s.length / 256 : Nat) : Int) := by rw [Int.tdiv_eq_ediv_of_nonneg (by omega)]; omega
  have hr : ((s.length : Int)).tmod 256 = ((s.length % 256 : Nat) : Int) := by rw [Int.tmod_eq_emod_of_nonneg (by omega)]; omega
  have hx2 : IntKind.u8.wrap ((s.length / 256 : Nat) : Int) = (((UInt8.ofNat (s.length / 256)).toNat : Nat) : Int) := by rw [UInt8.toNat_ofNat', IntKind.wrap_u8']; omega
  have hx3 : IntKind.u8.wrap ((s.length % 256 : Nat) : Int) = (((UInt8.ofNat (s.length % 256)).toNat : Nat) : Int) := by rw [UInt8.toNat_ofNat', IntKind.wrap_u8']; omega
  have HRC := Lib.hid (restL_cut k s)
  have hr4 : (restL k s).length = 508 := restL_len hs
  have HSL : Hid (sealL k s = putL (sumB (restL k s)) 4 ++ restL k s) := rfl
  have HSB := Lib.hid (sumB_lt (restL k s))
  have hqb : s.length / 256 ≤ 100 := by omega
  generalize restL k s = r at *
  have HR4 := Lib.hid hr4
  have hcv : IntKind.i64.wrap ((sumB r : Nat) : Int) = ((sumB r : Nat) : Int) := IntWalk.i64_in _ (by have := HSB.out; omega)
  clear hB hn hr4
  generalize UInt8.ofNat k = x1 at *
  generalize UInt8.ofNat (s.length / 256) = x2 at *
  generalize UInt8.ofNat (s.length % 256) = x3 at *
  generalize s.length / 256 = q2 at *
  generalize s.length % 256 = q3 at *
  have hr0 : BRow W (.slice (some ⟨W.heap.size, 0, none⟩) 3 3) [x1, x2, x3] (W.alloc (Obj.cells #[.int .u8 (x1.toNat : Nat), .int .u8 (x2.toNat : Nat), .int .u8 (x3.toNat : Nat)] 5)) := ⟨by go_grown, World.ownsRow_lit W #[.int .u8 (x1.toNat : Nat), .int .u8 (x2.toNat : Nat), .int .u8 (x3.toNat : Nat)] 3 (Nat.le_refl _) (by unfold maxLen; omega) rfl⟩
  have HR0 := Lib.hid hr0
  clear hr0
  obtain ⟨l3, hl3⟩ : ∃ l3, l3 = [x1, x2, x3] ++ s := ⟨_, rfl⟩
  have hn3 : l3.length = 3 + s.length := by rw [hl3]; simp; omega
  have HL3 := Lib.hid hl3
  have HN3 := Lib.hid hn3
  rw [← hl3] at HRC
  clear hl3 hn3
  go_enter Tryd.func18, Tryd.ntmps18
  go_wp2_with (at_builtin; go_must (refine append_by HR0.out s A c (HY.out _ HR0.out.1) HN.out (by simp only [List.length_cons, List.length_nil]; omega) rfl _ _ rfl rfl rfl ?_; rintro v3 w3 hR3; rw [← HL3.out] at hR3; have HR3 := Lib.hid hR3; clear hR3))
  go_loopw [6] (fun v wr => ∃ (j : Nat) (cs : List UInt8), Hid (cs = l3 ++ List.replicate j 0) ∧ j ≤ 505 - s.length ∧ Hid (BRow W v cs wr)) (fun v _ => 508 - (match v with | .slice _ n _ => n | _ => 0))
  case atStart => exact ⟨0, l3, by show _ = _; simp, by omega, HR3.out⟩
  case round =>
    obtain ⟨j, cs, HCS, hj, HRW⟩ := hrel
    have hcl : cs.length = 3 + s.length + j := by rw [HCS.out, List.length_append, HN3.out, List.length_replicate]
    obtain ⟨A4, c4, rfl, hY4, hb4, hl4, hm4⟩ := HRW.out.at
    have HY4 := Lib.hid hY4
    have hcl2 : (cs.length : Int) = 3 + (s.length : Int) + (j : Int) := by omega
    clear hY4 hb4 hl4 hm4
    by_cases hlt : j < 505 - s.length
    · have hl1 : (cs.length : Int) < 508 := by omega
      have HCL := Lib.hid hcl
      clear hcl hcl2
      go_wp2_with (at_builtin; go_must (refine append_by (HRW.out.on ((Below.refl _ _).alloc (Nat.le_refl _) _)) [0] _ 1 (bytes_lit (s := [0]) rfl) (fun e => by cases e) (by have := HCL.out; simp only [List.length_cons, List.length_nil]; omega) rfl _ _ rfl rfl rfl ?_; rintro v5 w5 hR5; obtain ⟨A5, c5, rfl, -, -, -, -⟩ := hR5.at; have HR5 := Lib.hid hR5; clear hR5))
      refine ⟨⟨j + 1, cs ++ [0], ?_, by omega, by have h := HR5.out; rw [List.length_append] at h; exact h⟩, ?_⟩
      · show _ = _
        rw [HCS.out, List.append_assoc, List.replicate_succ']
      · have := HCL.out
        simp
        omega
    · have hl1 : ¬ (cs.length : Int) < 508 := by omega
      obtain rfl : j = 505 - s.length := by omega
      rw [← HRC.out] at HCS
      obtain rfl : cs = r := HCS.out
      have HS := Lib.hid (ref_Sum (c := c4) HY4.out (by have := HR4.out; omega))
      have HP4 := Lib.hid (rPut_nil (W := wr) (sumB cs) 4 (by decide) (by decide) (by have := HSB.out; simpa using this))
      have HA4 : Hid (A4 = none → c4 = 0) := fun e => by
        subst e
        obtain ⟨g, o, e, _⟩ := HY4.out (by have := HR4.out; omega)
        cases e
      generalize sumB cs = S at *
      clear hcl hcl2
      go_wp2_with fail
      go_at_call 12
      refine HS.out.mono ?_
      rintro e' wz ⟨rfl, hwz⟩
      have hwz := hwz.symm
      subst hwz
      go_wp2_with fail
      go_at_call 16
      refine HP4.out.mono ?_
      rintro e' w5 ⟨v5, rfl, hR5⟩
      have HP5 := Lib.hid hR5
      have HY5 := Lib.hid (HY4.out.on hR5.1)
      have HN5 := Lib.hid (show (putL S 4).length + cs.length ≤ 140737488355328 by rw [putL_len]; have := HR4.out; omega)
      clear hR5
      go_wp2_with (at_builtin; go_must (refine append_by HP5.out cs A4 c4 HY5.out HA4.out HN5.out rfl _ _ rfl rfl rfl ?_; rintro v6 w6 hR6; rw [← HSL.out] at hR6; have HR6 := Lib.hid hR6; clear hR6))
      refine bodyPost_ret (v := .tuple #[v6, .int .i64 0]) ?_ rfl ⟨v6, rfl, HR6.out.up HRW.out.1⟩
      simp [results, Tryd.results18, go_sem]
theorem ref_Seal {W : World} {A : Option Addr} {c : Nat} {s : List UInt8} (k : Int) (hB : BytesAt W A s.length s) (hn : A = none → c = 0) :
    Calls Tryd.prog 18 #[.int .i64 k, .slice A s.length c] W fun e w' => ∃ v, e = .returned (.tuple #[v, .int .i64 (slE k s)]) ∧ BRow W v (slV k s) w' := by
  by_cases h1 : k < 1 ∨ 255 < k
  · have he : slE k s = 1 := by unfold slE; rw [if_pos h1]; rfl
    have hv : slV k s = [] := by unfold slV; rw [if_neg (by rw [he]; decide)]
    rw [he, hv]
    exact (rseal_arg k h1).mono fun e w' ⟨h, hw⟩ => ⟨_, h, hw ▸ BRow.none W⟩
  · by_cases h2 : 505 < s.length
    · have he : slE k s = 12 := by unfold slE; rw [if_neg h1, if_pos h2]; rfl
      have hv : slV k s = [] := by unfold slV; rw [if_neg (by rw [he]; decide)]
      rw [he, hv]
      exact (rseal_large k (by omega) (by omega) h2).mono fun e w' ⟨h, hw⟩ => ⟨_, h, hw ▸ BRow.none W⟩
    · have he : slE k s = 0 := by unfold slE; rw [if_neg h1, if_neg h2]
      have hv : slV k s = sealL k.toNat s := by unfold slV; rw [if_pos he]
      rw [he, hv]
      have := rseal_good (A := A) (c := c) k.toNat hB hn (by omega) (by omega) (by omega)
      rwa [show ((k.toNat : Nat) : Int) = k by omega] at this
/-- own: the bytes in a block of the call's own. -/
theorem made_row (w0 W : World) (n : Nat) (hb : Below w0.heap.size w0 W) (hn : n ≤ 140737488355328) :
    (Instr.makeSlice 22 (.int .i64 0) (.int .i64 (n : Nat))).run Tryd.prog W = .ok (.slice (some ⟨W.heap.size, 0, none⟩) 0 n) (W.alloc (.cells (madeCells #[.int .u8 0] n) 5)) ∧ BRow w0 (.slice (some ⟨W.heap.size, 0, none⟩) 0 n) [] (W.alloc (.cells (madeCells #[.int .u8 0] n) 5)) := by
  obtain ⟨i, hi, hz0, hz1, hz2⟩ : ∃ i, Tryd.prog.info? 5 = some i ∧ i.zero = some (.int .u8 0) ∧ i.size = 1 ∧ i.bytes = 1 := by
    obtain ⟨i, h1, h2, h3, h4⟩ := info_parts infoB
    exact ⟨i, h1, h2, h3, h4⟩
  have hr := run_make (P := Tryd.prog) W 22 5 i (.int .u8 0) Tryd.underlying22 hi hz0 .i64 .i64 0 (n : Int) (by omega) (by omega) (by rw [hz2]; omega) (by omega)
  rw [hz1] at hr
  refine ⟨by have h := hr; simp at h; exact h, hb.alloc hb.size _, ?_⟩
  exact World.ownsRow_made W _ n hb.size (by unfold maxLen; omega) (by rw [size_madeCells]; omega)
set_option maxHeartbeats 1000000 in
theorem own_bytes {W : World} {A : Option Addr} {c : Nat} {s : List UInt8} (hB : BytesAt W A s.length s) (hn : A = none → c = 0) (hm : s.length ≤ 140737488351232) :
    Calls Tryd.prog 11 #[.slice A s.length c] W fun e w' => ∃ v, e = .returned v ∧ BRow W v s w' := by
  obtain ⟨hr, hR⟩ := made_row W W (s.length + 9) (Below.refl _ W) (by omega)
  rw [show ((s.length + 9 : Nat) : Int) = (s.length : Int) + 9 by omega] at hr
  have HR0 := Lib.hid hR
  have HY := Lib.hid (hB.on hR.1)
  have HN := Lib.hid hn
  generalize (W.alloc _) = w1 at *
  clear hB hn hR
  go_enter Tryd.func11, Tryd.ntmps11
  go_wp2_with (at_builtin; go_must (refine append_by HR0.out s A c HY.out HN.out (by simp; omega) rfl _ _ rfl rfl rfl ?_; rintro v8 w8 HR8; rw [List.nil_append] at HR8; have HR := Lib.hid HR8; clear HR8))
  go_ret
  exact ⟨_, rfl, HR.out⟩
theorem sum_ans : sumB [49, 50, 51, 52, 53, 54, 55, 56, 57] = 3421780262 := by decide +kernel
set_option maxHeartbeats 1000000 in
theorem answers_any {W : World} (hE : Env W) : Calls Tryd.prog 9 #[] W fun e w' => e = .returned (.bool true) ∧ Below W.heap.size W w' := by
  have hb : ∀ fr, Below W.heap.size W (W.alloc (Obj.cells #[.int .u8 49, .int .u8 50, .int .u8 51, .int .u8 52, .int .u8 53, .int .u8 54, .int .u8 55, .int .u8 56, .int .u8 57] 5 fr)) := fun fr => (Below.refl _ W).alloc (Nat.le_refl _) _
  have hS := Sum_any (c := 9) (hE.on (hb (9, 10))) (bytes_lit (s := [49, 50, 51, 52, 53, 54, 55, 56, 57]) rfl) (by decide)
  rw [sum_ans] at hS
  have hcv := Lib.run_convert_bytes_const (P := Tryd.prog) W 22 5 #[.int .u8 49, .int .u8 50, .int .u8 51, .int .u8 52, .int .u8 53, .int .u8 54, .int .u8 55, .int .u8 56, .int .u8 57] 9 9 Tryd.underlying22 Tryd.underlying5
  have HS := Lib.hid hS
  have HB := Lib.hid hb
  clear hS hb hE
  go_enter Tryd.func9, Tryd.ntmps9
  go_wp2_with fail
  go_at_call 10
  refine HS.out.mono ?_
  rintro e' wz ⟨rfl, hwz⟩
  have hwz := hwz.symm
  subst hwz
  clear hcv
  go_wp2_with fail
  go_ret
  exact ⟨rfl, HB.out _⟩
end Go.Proofs.YtdnfijhclikkfaaDoor
