/- Noughts appended to bytes of the call's own: append(b, make([]byte, m)...). -/
import Derived.Test.YtdnfijhclikkfaaDoorFPut
import Derived.Lib.AppendZerosOnto
namespace Go.Proofs.YtdnfijhclikkfaaDoor
open Go.RowKit Go.Lib

theorem zeros_list (m : Nat) : (Builtin.zeroCells #[Value.int .u8 0] m).toList = List.replicate m (.int .u8 0) := by
  apply List.ext_getElem?
  intro i
  simp only [Builtin.zeroCells, List.size_toArray, List.length_cons, List.length_nil, Nat.zero_add, Nat.mul_one, Array.toList_map, Array.toList_range, List.getElem?_map, List.getElem?_replicate]
  by_cases h : i < m
  · simp [h, Nat.mod_one]
  · simp [h]
theorem zeros_byV (m : Nat) : byV (List.replicate m 0) = List.replicate m (.int .u8 0) := by simp [byV]
theorem run_zeros {W : World} {base g cap n m : Nat} {xs : List Value} (ty : TypeId) (h : W.ownsRow base 5 1 (.slice (some ⟨g, 0, none⟩) n cap) n xs) (hb : base ≤ W.heap.size) (hm : n + m ≤ 1000000) :
    ∃ v' w', (Builtin.append_ #[22, 3] ty #[.slice (some ⟨g, 0, none⟩) n cap, .int .i64 (m : Nat)]).run Tryd.prog W = .ok v' w' ∧ w'.ownsRow base 5 1 v' (n + m) (xs ++ List.replicate m (.int .u8 0)) ∧ W.grownBy w' (some g) := by
  obtain ⟨i, hi, hz0, hz1, hz2⟩ : ∃ i, Tryd.prog.info? 5 = some i ∧ i.zero = some (.int .u8 0) ∧ i.size = 1 ∧ i.bytes = 1 := by
    obtain ⟨i, h1, h2, h3, h4⟩ := info_parts infoB
    exact ⟨i, h1, h2, h3, h4⟩
  have ht := Tryd.underlying22
  have htn := Tryd.underlying3
  have hlen : (xs ++ List.replicate m (Value.int .u8 0)).length = (n + m) * 1 := by rw [List.length_append, h.1, List.length_replicate]; omega
  obtain ⟨hl, hn | ⟨g', cap', cur, e, hbg, hg, hnc, hcm, hcs, htake⟩⟩ := h
  · exact absurd hn.1 (by simp)
  · cases e
    have hw : IntKind.i64.wrap (m : Int) = m := by rw [IntKind.wrap_i64]; omega
    have hneg : ¬ ((m : Int) < 0) := by omega
    have h48i : ¬ (281474976710656 < (m : Int)) := by omega
    by_cases h0 : m = 0
    · subst h0
      have hw0 : IntKind.i64.wrap (0 : Int) = 0 := by rw [IntKind.wrap_i64]; omega
      refine ⟨.slice (some ⟨g, 0, none⟩) n cap, W, ?_, ⟨by simpa using hl, .inr ⟨g, cap, cur, rfl, hbg, hg, hnc, hcm, hcs, by simpa using htake⟩⟩, World.grownBy.refl W _⟩
      simp [Builtin.append_, run_underlying ht, run_underlying htn, sizeOf, typeInfo, hi, hz1, asInt, asIntOf, hw0, hnc, storeCells, Result.andThen]
    have hk : m ≠ 0 := h0
    have hrl : (List.replicate m (Value.int .u8 0)).length = m := List.length_replicate
    have hcur : cur.size = cap := by simpa using hcs
    by_cases hroom : n + m ≤ cap
    · have hst := run_storeCells_at Tryd.prog g n 5 (List.replicate m (.int .u8 0)) 0 cur W hg (by rw [hrl]; omega) (fun u hu => by rw [List.eq_of_mem_replicate hu]; rfl)
      simp only [Nat.add_zero] at hst
      refine ⟨.slice (some ⟨g, 0, none⟩) (n + m) cap, W.setRow g (cur.toList.take n ++ List.replicate m (Value.int .u8 0) ++ cur.toList.drop (n + (List.replicate m (Value.int .u8 0)).length)).toArray, ?_, ⟨hlen, .inr ⟨g, cap, _, rfl, hbg, setRow_heap W g cur _ 5 _ hg, hroom, hcm, ?_, ?_⟩⟩, ⟨rfl, rfl, rfl, by simp, fun k _ hk => setRow_other W g k _ (fun e => hk (by rw [e]))⟩⟩
      · simp [Builtin.append_, run_underlying ht, run_underlying htn, sizeOf, typeInfo, zeroValue, hi, hz0, hz1, hz2, asInt, asIntOf, hw, hneg, h48i, hk, hroom, Addr.add_lit]
        rw [show (Value.int .u8 0).cells = #[Value.int .u8 0] from rfl, zeros_list, hst]
        simp [Result.andThen]
      · simp only [List.size_toArray, List.length_append, List.length_take, List.length_drop, Array.length_toList, hrl, Nat.mul_one]
        omega
      · have ht2 : cur.toList.take n = xs := by simpa using htake
        have hx : xs.length = n := by simpa using hl
        rw [ht2]
        have e2 : (n + m) * 1 = (xs ++ List.replicate m (Value.int .u8 0)).length := by rw [hlen]
        rw [e2]
        exact List.take_left
    · have hgr := grownCap_ge W (n + m) cap 5
      have hgm := grownCap_le_maxLen W (n + m) cap 5 (by unfold maxLen; omega)
      have hfc : (Builtin.firstCells 1 n (.slice (some ⟨g, 0, none⟩) n cap)).run Tryd.prog W.drew = .ok xs.toArray W.drew :=
        run_firstCells_some (P := Tryd.prog) W.drew 1 n ⟨g, 0, none⟩ n cap xs hl (fun j u hu => by
          have hj : j < xs.length := (List.getElem?_eq_some_iff.1 hu).1
          have hj2 : j < n := by omega
          show W.cell? _ = _
          rw [show (⟨g, 0, none⟩ : Addr).add j = ⟨g, j, none⟩ by (unfold Addr.add; simp; try omega), blk_cell hg j, ← Array.getElem?_toList]
          have := congrArg (·[j]?) htake
          simp only [List.getElem?_take, Nat.mul_one, hj2, if_true] at this
          rw [this, hu])
      have hnx : Builtin.nextslicecap (n + m) cap * i.bytes ≤ 281474976710656 := by
        rw [hz2, Nat.mul_one]
        have := nextslicecap_le (need := n + m) (old := cap) (by omega)
        omega
      refine ⟨_, _, run_append_grow_zeros W 22 3 ty 5 i (.int .u8 0) .i64 .i64 ht htn hi hz0 (some ⟨g, 0, none⟩) n cap xs (by rw [hz1]; exact hfc) m (by omega) (by omega) (by omega) (by omega) (by rw [hz2]; omega) hnx, ⟨hlen, .inr ⟨W.heap.size, _, _, rfl, hb, heap_alloc_new W.drew _, hgr, hgm, ?_, ?_⟩⟩, ⟨rfl, rfl, rfl, by simp, fun k hk _ => heap_alloc_old W.drew _ hk⟩⟩
      · simp only [Array.size_append, List.size_toArray, size_zeroCells]
        show _ + _ * 1 + _ * 1 = _
        omega
      · have hx : xs.length = n := by simpa using hl
        simp only [Array.toList_append, List.append_assoc]
        show List.take ((n + m) * 1) (xs ++ ((Builtin.zeroCells #[Value.int .u8 0] m).toList ++ _)) = _
        rw [zeros_list, ← List.append_assoc]
        have e2 : (n + m) * 1 = (xs ++ List.replicate m (Value.int .u8 0)).length := by rw [hlen]
        rw [e2]
        exact List.take_left
end Go.Proofs.YtdnfijhclikkfaaDoor
