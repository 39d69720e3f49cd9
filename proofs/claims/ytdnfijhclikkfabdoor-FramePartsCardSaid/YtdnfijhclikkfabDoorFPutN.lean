/- Layer frame's program: PutNum. -/
import Derived.Test.YtdnfijhclikkfabDoorFZero
namespace Go.Proofs.YtdnfijhclikkfabDoor
open Go.RowKit Go.Lib

theorem append_zeros {w0 W : World} {g c : Nat} {l : List UInt8} (HR : BRow w0 (.slice (some ⟨g, 0, none⟩) l.length c) l W) (m : Nat) (hb : l.length + m ≤ 1000000)
    {ops : Array Oper} {rest : List Oper} {o : Oper} {a : Act} {Q : Exit → Act → World → Prop} (hgd : o.guard = none) (s x : Operand)
    (ho : o.op = .call { callee := .builtin .append, args := #[s, x], argTypes := #[22, 3] })
    (hs : a.eval s = .slice (some ⟨g, 0, none⟩) l.length c) (hx : a.eval x = .int .i64 (m : Nat))
    (h : ∀ v' w', BRow w0 v' (l ++ List.replicate m 0) w' → wpList Tryd.prog ops Q rest (a.put o.dst v') w') :
    wpList Tryd.prog ops Q (o :: rest) a W := by
  obtain ⟨v', w', hr, hown, hgrow⟩ := run_zeros (W := W) (m := m) o.type HR.2 HR.1.size hb
  refine Lib.wpList_append_run W hgd s x 22 3 ho _ _ hs hx v' w' hr (h v' w' ⟨HR.1.grown hgrow HR.1.size (fun k hk => by cases hk; exact (HR.2.lt g rfl).1), ?_⟩)
  have e1 : byV (l ++ List.replicate m 0) = byV l ++ List.replicate m (.int .u8 0) := by simp [byV]
  rw [e1, List.length_append, List.length_replicate]
  exact hown
theorem putB_bad {s : List UInt8} {n k : Int} (h : n < 0 ∨ k < 1 ∨ 8 < k) : putB s n k = s := by
  unfold putB; rw [if_neg]; rintro ⟨h1, h2, h3, -⟩; omega
set_option maxHeartbeats 2000000 in
theorem putNum_bad {W : World} {A : Option Addr} {c : Nat} {s : List UInt8} (n k : Int) (hB : BytesAt W A s.length s) (hn : A = none → c = 0) (hm : s.length ≤ 140737488351232) (h : n < 0 ∨ k < 1 ∨ 8 < k) :
    Calls Tryd.prog 6 #[.slice A s.length c, .int .i64 n, .int .i64 k] W fun e w' => ∃ v, e = .returned v ∧ BRow W v (putB s n k) w' := by
  have HC := Lib.hid (Clone_any hB hn (by omega))
  rw [putB_bad h]
  by_cases h1 : n < 0
  · go_enter Tryd.func6, Tryd.ntmps6
    go_wp2_with (go_at_call 11; go_must ((with_reducible refine HC.out.mono ?_); rintro e' w1 ⟨v1, rfl, hR1⟩; have HR1 := Lib.hid hR1; clear hR1))
    go_ret
    exact ⟨_, rfl, HR1.out⟩
  · by_cases h2 : k < 1
    · go_enter Tryd.func6, Tryd.ntmps6
      go_wp2_with (go_at_call 11; go_must ((with_reducible refine HC.out.mono ?_); rintro e' w1 ⟨v1, rfl, hR1⟩; have HR1 := Lib.hid hR1; clear hR1))
      go_ret
      exact ⟨_, rfl, HR1.out⟩
    · have h3 : 8 < k := by omega
      clear h
      go_enter Tryd.func6, Tryd.ntmps6
      go_wp2_with (go_at_call 11; go_must ((with_reducible refine HC.out.mono ?_); rintro e' w1 ⟨v1, rfl, hR1⟩; have HR1 := Lib.hid hR1; clear hR1))
      go_ret
      exact ⟨_, rfl, HR1.out⟩
theorem pow_two (k : Nat) : (256 : Nat) ^ k = 2 ^ (8 * k) := by rw [show (256 : Nat) = 2 ^ 8 from rfl, ← Nat.pow_mul]
set_option maxHeartbeats 2000000 in
theorem putNum_any {W : World} {A : Option Addr} {c : Nat} {s : List UInt8} (n k : Nat) (hB : BytesAt W A s.length s) (hn : A = none → c = 0) (hm : s.length ≤ 140737488351232) (hk1 : 1 ≤ k) (hk8 : k ≤ 8) (hnn : n < 9223372036854775808) :
    Calls Tryd.prog 6 #[.slice A s.length c, .int .i64 (n : Nat), .int .i64 (k : Nat)] W fun e w' => ∃ v, e = .returned v ∧ BRow W v (putB s n k) w' := by
  have HC := Lib.hid (Clone_any hB hn (by omega))
  have g1 : ¬ (n : Int) < 0 := by omega
  have g2 : ¬ (k : Int) < 1 := by omega
  have g3 : ¬ (8 : Int) < (k : Int) := by omega
  have hwk : IntKind.i64.wrap (8 * (k : Int)) = 8 * (k : Int) := IntWalk.i64_in _ (by omega)
  clear hB hn
  have hd : (n : Int) / 2 ^ (8 * k) = ((n / 256 ^ k : Nat) : Int) := by rw [pow_two]; simp
  by_cases hz : n / 256 ^ k = 0
  · have hz1 : ((n : Int) / 2 ^ (8 * k) != 0) = false := by rw [hd, hz]; rfl
    have HP := Lib.hid (show putB s n k = s ++ putL n k by unfold putB; rw [if_pos ⟨by omega, by omega, by omega, by simpa using hz⟩]; simp)
    clear hd hz
    go_enter Tryd.func6, Tryd.ntmps6
    go_wp2_with (go_at_call 11; go_must ((with_reducible refine HC.out.mono ?_); rintro e' w1 ⟨v1, rfl, hR1⟩; have HR1 := Lib.hid hR1; clear hR1))
    go_loopw [7, 8] (fun v i wr => ∃ (j : Nat) (cs : List UInt8), i = .int .i64 ((j : Int) - 1) ∧ j ≤ k ∧ cs.length + j = s.length + k ∧ Hid (cs ++ putL n j = s ++ putL n k) ∧ Hid (BRow W v cs wr)) (fun _ i _ => (RowKit.intOf i + 1).toNat)
    case atStart => exact ⟨k, s, rfl, Nat.le_refl _, rfl, rfl, HR1.out⟩
    case round =>
      obtain ⟨j, cs, rfl, hj, hcl, HCS, HR⟩ := hrel
      cases j with
      | zero =>
        have hcs : cs = s ++ putL n k := by have := HCS.out; rwa [show putL n 0 = [] from rfl, List.append_nil] at this
        go_wp2_with fail
        go_ret
        refine ⟨_, rfl, ?_⟩
        rw [HP.out, ← hcs]
        exact HR.out
      | succ q =>
        have hq1 : (((q + 1 : Nat) : Int) - 1) = (q : Int) := by omega
        rw [hq1]
        have hw8 : IntKind.i64.wrap (8 * (q : Int)) = 8 * (q : Int) := IntWalk.i64_in _ (by omega)
        have hx : IntKind.u8.wrap ((n : Int) / 2 ^ (8 * q)) = (((UInt8.ofNat (n / 256 ^ q)).toNat : Nat) : Int) := by
          rw [UInt8.toNat_ofNat', show ((n : Int) / 2 ^ (8 * q)) = ((n / 256 ^ q : Nat) : Int) by rw [pow_two]; simp, IntKind.wrap_u8']
          omega
        have HX := Lib.hid (show putL n (q + 1) = UInt8.ofNat (n / 256 ^ q) :: putL n q from rfl)
        generalize UInt8.ofNat (n / 256 ^ q) = x at *
        clear hq1
        go_wp2_with (at_builtin; go_must (refine append_by (HR.out.on ((Below.refl _ _).alloc (Nat.le_refl _) _)) [x] _ 1 (bytes_lit (s := [x]) rfl) (fun e => by cases e) (by simp; omega) rfl _ _ rfl rfl rfl ?_; rintro v' w' HR'; have HR2 := Lib.hid HR'; clear HR'))
        refine ⟨⟨q, cs ++ [x], rfl, by omega, by rw [List.length_append]; simp only [List.length_cons, List.length_nil]; omega, ?_, HR2.out⟩, by simp [RowKit.intOf]⟩
        show _ = _
        rw [← HCS.out, HX.out, List.append_assoc]
        rfl
  · have hz1 : ((n : Int) / 2 ^ (8 * k) != 0) = true := by rw [hd, bne_iff_ne]; omega
    have HP := Lib.hid (show putB s n k = s by unfold putB; rw [if_neg]; rintro ⟨-, -, -, h4⟩; exact hz (by simpa using h4))
    clear hd hz
    go_enter Tryd.func6, Tryd.ntmps6
    go_wp2_with (go_at_call 11; go_must ((with_reducible refine HC.out.mono ?_); rintro e' w1 ⟨v1, rfl, hR1⟩; have HR1 := Lib.hid hR1; clear hR1))
    go_ret
    exact ⟨_, rfl, by rw [HP.out]; exact HR1.out⟩
theorem PutNum_any {W : World} {A : Option Addr} {c : Nat} {s : List UInt8} (n k : Int) (hB : BytesAt W A s.length s) (hn : A = none → c = 0) (hm : s.length ≤ 140737488351232) (hnn : n ≤ 9223372036854775807) :
    Calls Tryd.prog 6 #[.slice A s.length c, .int .i64 n, .int .i64 k] W fun e w' => ∃ v, e = .returned v ∧ BRow W v (putB s n k) w' := by
  by_cases h : n < 0 ∨ k < 1 ∨ 8 < k
  · exact putNum_bad n k hB hn hm h
  · have := putNum_any (A := A) (c := c) n.toNat k.toNat hB hn hm (by omega) (by omega) (by omega)
    rwa [show ((n.toNat : Nat) : Int) = n by omega, show ((k.toNat : Nat) : Int) = k by omega] at this
end Go.Proofs.YtdnfijhclikkfabDoor
