/- Layer frame's program: Clone, allNoughts, Num, PutNum. -/
import Derived.Test.YtdnfijhclikkfaaDoorFSum
namespace Go.Proofs.YtdnfijhclikkfaaDoor
open Go.RowKit Go.Lib

theorem clone_nil (w : World) (A : Option Addr) (n c n' c' : Nat) : (binOp .eql 22 (.slice A n c) (.slice none n' c')).run Tryd.prog w = .ok (.bool A.isNone) w :=
  Lib.run_eql_slice_nil w _ _ A n c n' c' Tryd.underlying22
set_option maxHeartbeats 1000000 in
theorem Clone_any {W : World} {A : Option Addr} {c : Nat} {s : List UInt8} (hB : BytesAt W A s.length s) (hn : A = none → c = 0) (hm : s.length ≤ 140737488355328) :
    Calls Tryd.prog 22 #[.slice A s.length c] W fun e w' => ∃ v, e = .returned v ∧ BRow W v s w' := by
  have q := fun w n n' c' => clone_nil w A n c n' c'
  have HN := Lib.hid hn
  have HY := Lib.hid (fun W' (hb : Below W.heap.size W W') => bytes_on hB (grew_of hb none) (fun _ _ => by simp))
  clear hB hn
  cases A with
  | none =>
    have hs : s = [] := by
      cases s with
      | nil => rfl
      | cons x t => obtain ⟨g, o, e, _⟩ := HY.out W (Below.refl _ _) (by simp); cases e
    subst hs
    have q1 : (none : Option Addr).isNone = true := rfl
    go_enter Tryd.func22, Tryd.ntmps22
    go_wp2_with fail
    go_ret
    exact ⟨_, rfl, BRow.none W⟩
  | some ad =>
    have q1 : (some ad).isNone = false := rfl
    go_enter Tryd.func22, Tryd.ntmps22
    go_wp2_with (at_builtin; go_must (refine append_by (BRow.made W W (Below.refl _ _)) s (some ad) c (HY.out _ ((Below.refl _ W).alloc (Nat.le_refl _) _)) (fun e => by cases e) (by simp; omega) rfl _ _ rfl rfl rfl ?_; rintro v8 w8 HR8; rw [List.nil_append] at HR8; have HR := Lib.hid HR8; clear HR8))
    go_ret
    exact ⟨_, rfl, HR.out⟩

theorem all_take {s : List UInt8} (h : ∀ j, j < s.length → s[j]? = some 0) : s.all (· == 0) = true := by
  rw [List.all_eq_true]
  intro x hx
  obtain ⟨j, hj, e⟩ := List.mem_iff_getElem.1 hx
  have := h j hj
  rw [List.getElem?_eq_getElem hj, e] at this
  injection this with this
  rw [this]; rfl
set_option maxHeartbeats 1000000 in
theorem noughts_any {W : World} {A : Option Addr} {c : Nat} {s : List UInt8} (hB : BytesAt W A s.length s) (hm : s.length ≤ 140737488355328) :
    Calls Tryd.prog 23 #[.slice A s.length c] W fun e w' => e = .returned (.bool (s.all (· == 0))) ∧ w' = W := by
  go_enter Tryd.func23, Tryd.ntmps23
  go_wp2_with fail
  go_loopw [7] (fun i wr => ∃ j : Nat, i = .int .i64 j ∧ j ≤ s.length ∧ wr = W ∧ Hid (∀ i, i < j → s[i]? = some 0)) (fun i _ => s.length - (RowKit.intOf i).toNat)
  case atStart => exact ⟨0, rfl, by omega, rfl, fun i hi => absurd hi (Nat.not_lt_zero _)⟩
  case round =>
    obtain ⟨j, rfl, hj, hw, HS⟩ := hrel
    have hw := hw.symm
    subst hw
    by_cases hlt : j < s.length
    · have hl1 : (j : Int) < (s.length : Int) := by omega
      have hl0 : (0 : Int) ≤ (j : Int) := by omega
      obtain ⟨g, o, rfl, hcj⟩ := byte_at hB hlt
      have HG := Lib.hid (List.getElem?_eq_getElem hlt)
      generalize s[j] = x at *
      clear hB
      by_cases hx : x = 0
      · subst hx
        have h0 : (((0 : UInt8).toNat : Nat) : Int) = 0 := rfl
        rw [h0] at hcj
        go_wp2_with fail
        refine ⟨⟨j + 1, by go_num, by omega, by first | rfl | trivial, fun i hi => ?_⟩, by simp [RowKit.intOf]; omega⟩
        rcases Nat.lt_or_ge i j with h | h
        · exact HS.out i h
        · obtain rfl : i = j := by omega
          exact HG.out
      · have hx1 : (((x.toNat : Nat) : Int) != 0) = true := by
          rw [bne_iff_ne]
          intro e
          exact hx (UInt8.toNat_inj.1 (by simpa using e))
        have HR : Hid (s.all (· == 0) = false) := by
          show _ = _
          rw [List.all_eq_false]
          refine ⟨x, List.mem_of_getElem? HG.out, by simpa using hx⟩
        clear hx
        go_wp2_with fail
        go_ret
        exact ⟨by rw [HR.out]; rfl, rfl⟩
    · have hl1 : ¬ (j : Int) < (s.length : Int) := by omega
      have HR := Lib.hid (all_take (s := s) fun i hi => HS.out i (by omega))
      go_wp2_with fail
      go_ret
      exact ⟨by rw [HR.out]; rfl, rfl⟩
end Go.Proofs.YtdnfijhclikkfaaDoor
