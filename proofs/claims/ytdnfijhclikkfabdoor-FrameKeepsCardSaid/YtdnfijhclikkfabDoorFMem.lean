/- Layer frame's program: Clone, allNoughts, Num, PutNum. -/
import Derived.Test.YtdnfijhclikkfabDoorFSum
namespace Go.Proofs.YtdnfijhclikkfabDoor
open Go.RowKit Go.Lib

theorem clone_nil (w : World) (A : Option Addr) (n c n' c' : Nat) : (binOp .eql 22 (.slice A n c) (.slice none n' c')).run Tryd.prog w = .ok (.bool A.isNone) w :=
  Lib.run_eql_slice_nil w _ _ A n c n' c' Tryd.underlying22
set_option maxHeartbeats 1000000 in
theorem Clone_any {W : World} {A : Option Addr} {c : Nat} {s : List UInt8} (hB : BytesAt W A s.length s) (hn : A = none → c = 0) (hm : s.length ≤ 140737488355328) :
    Calls Tryd.prog 11 #[.slice A s.length c] W fun e w' => ∃ v, e = .returned v ∧ BRow W v s w' := by
  have q := fun w n n' c' => clone_nil w A n c n' c'
  have HN := Lib.hid hn
  have HY := Lib.hid (fun W' (hb : Below W.heap.size W W') => bytes_on hB (grew_of hb none) (fun _ _ => by simp))
  clear hB hn
  cases A with
  | none =>
    have hs : s = [] := by
      cases s with
      | nil => rfl
      | cons x t => obtain ⟨g, o, e, _⟩ := HY.out W (Below.refl _ _) (by simp); cases e
    subst hs
    have q1 : (none : Option Addr).isNone = true := rfl
    go_enter Tryd.func11, Tryd.ntmps11
    go_wp2_with fail
    go_ret
    exact ⟨_, rfl, BRow.none W⟩
  | some ad =>
    have q1 : (some ad).isNone = false := rfl
    go_enter Tryd.func11, Tryd.ntmps11
    go_wp2_with (at_builtin; go_must (refine append_by (BRow.made W W (Below.refl _ _)) s (some ad) c (HY.out _ ((Below.refl _ W).alloc (Nat.le_refl _) _)) (fun e => by cases e) (by simp; omega) rfl _ _ rfl rfl rfl ?_; rintro v8 w8 HR8; rw [List.nil_append] at HR8; have HR := Lib.hid HR8; clear HR8))
    go_ret
    exact ⟨_, rfl, HR.out⟩

theorem all_take {s : List UInt8} (h : ∀ j, j < s.length → s[j]? = some 0) : s.all (· == 0) = true := by
  rw [List.all_eq_true]
  intro x hx
  obtain ⟨j, hj, e⟩ := List.mem_iff_getElem.1 hx
  have := h j hj
  rw [List.getElem?_eq_getElem hj, e] at this
  injection this with this
  rw [this]; rfl
end Go.Proofs.YtdnfijhclikkfabDoor
