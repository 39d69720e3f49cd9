/- How a slice of items comes in. -/
import Derived.Test.YtoiamjglklgcdaaGreatOpenRing
import Derived.Test.YtoiamjglklgcdaaGreatRDltP
set_option maxRecDepth 100000
namespace Go.Proofs.YtoiamjglklgcdaaGreat
open Go.Joins Go.ChangeShapes Go.WideShapes Go.ChangeAt Go.RowKit Go.Lib

section
variable {H : Type} {enc : TypeId × Value → H} {w : World}
theorem cell_spotI {w : World} {b o : Nat} {sp : Option Nat} {v : Value} (h : w.cell? ⟨b, o, sp⟩ = some v) : sp = none := by
 cases sp with
 |none => rfl
 |some n =>
  exfalso
  unfold World.cell? at h
  simp only at h
  split at h <;> simp_all
theorem bytesI_cell {fuel : Nat} {cs : List Value} {x : DataW H × List MemPlace} (hf : DataW.trod enc Tryz.prog w 0 (fun _ => true) true fuel 37 cs = some x) :
  ∃ (A : Option Addr) (xs : List UInt8) (cap : Nat), cs = [.slice A xs.length cap] ∧ BytesAt w A xs.length xs ∧ (A = none → cap = 0) ∧ ((∀ k ∈ x.1.weights Tryz.prog 37, k ≤ reachBytes) → xs.length ≤ 140737488355328) := by
 rcases Go.Deep.open_slice1 Tryz.underlying37 (by kernel_rfl) hf with ⟨h1, h2⟩ | ⟨a, l0, c0, m, n, V, D, Pl, h1, hba, hlc, hcm, hm, hx, hcell⟩
 ·exact ⟨none, [], 0, h1, fun hp => absurd hp (by simp), fun _ => rfl, fun _ => Nat.zero_le _⟩
 ·simp only [if_true] at hm
  subst hm
  have each : ∀ i, i < l0 → ∃ q : UInt8, w.cell? (a.add i) = some (.int .u8 (q.toNat : Nat)) := fun i hi => by
   obtain ⟨hc, ht⟩ := hcell i (by omega)
   obtain ⟨x, e0, -, wx⟩ := DataW.trod_int Tryz.underlying5 ht
   have e1 : V i = .int .u8 x := by simpa using e0
   have hb := bounds_u8 wx
   refine ⟨UInt8.ofNat x.toNat, ?_⟩
   rw [hc, e1, UInt8.toNat_ofNat', Nat.mod_eq_of_lt (by omega)]
   congr 2
   omega
  obtain ⟨q, hq⟩ := Go.Deep.choose_lt each
  refine ⟨some a, (List.range l0).map q, m, by simp [h1], fun hp => ?_, (fun e => by cases e), fun hw => ?_⟩
  ·simp only [List.length_map, List.length_range] at hp ⊢
   obtain ⟨b, o, sp⟩ := a
   have h0 := hq 0 hp
   have hsp : sp = none := by
    simp only [Addr.add] at h0
    exact cell_spotI h0
   subst hsp
   refine ⟨b, o, rfl, fun i hi => ?_⟩
   have hi' := hq i hi
   rw [show (⟨b, o, none⟩ : Addr).add i = ⟨b, o + i, none⟩ by simp [Addr.add]] at hi'
   rw [hi']
   simp [List.getD_eq_getElem?_getD, hi]
  ·have hd := congrArg Prod.fst hx
   simp only at hd
   rw [hd] at hw
   simp only [DataW.weights, Tryz.underlying37, List.mem_cons, List.mem_append] at hw
   have h := hw _ (.inl rfl)
   rw [show Tryz.prog.bytesOf 5 = 1 by kernel_rfl] at h
   have := reachBytes_lt
   simp only [List.length_map, List.length_range] at h ⊢
   omega
theorem list2 {α : Type} {cs : List α} (h : cs.length = 2) : ∃ a b, cs = [a, b] := by
 match cs, h with
 |[a, b], _ => exact ⟨a, b, rfl⟩
theorem item_cells {fuel : Nat} {cs : List Value} {x : DataW H × List MemPlace} (hf : DataW.trod enc Tryz.prog w 0 (fun _ => true) true fuel 39 cs = some x) :
  ∃ p : IV, cs = encI p ∧ ItRd w p ∧ ((∀ k ∈ x.1.weights Tryz.prog 39, k ≤ reachBytes) → p.key.length ≤ 140737488355328 ∧ p.val.length ≤ 140737488355328) := by
 obtain ⟨y0, y1, k, rfl, hl, g0, g1⟩ := trod_struct2 Tryz.underlying39 hf
 obtain ⟨v0, v1, rfl⟩ := list2 (hl.trans (show Tryz.prog.cellsOf 39 = 2 by kernel_rfl))
 simp only [show Tryz.prog.cellsOf 37 = 1 by kernel_rfl, List.drop_zero, List.take_succ_cons, List.take_zero, List.drop_succ_cons] at g0 g1
 obtain ⟨A, xs, c, e0, hb0, hn0, hs0⟩ := bytesI_cell g0
 obtain ⟨B, ys, d, e1, hb1, hn1, hs1⟩ := bytesI_cell g1
 simp only [List.cons.injEq, and_true] at e0 e1
 subst e0; subst e1
 refine ⟨⟨xs, A, c, ys, B, d⟩, rfl, ⟨hb0, hb1, hn0, hn1⟩, fun hw => ⟨hs0 fun k hk => hw k ?_, hs1 fun k hk => hw k ?_⟩⟩
 ·simp only [DataW.weights, Tryz.underlying39, List.map_cons, List.map_nil, DataW.weightsEach, List.mem_append]
  exact .inl hk
 ·simp only [DataW.weights, Tryz.underlying39, List.map_cons, List.map_nil, DataW.weightsEach, List.mem_append]
  exact .inr (.inl hk)
theorem weights_allI {e : TypeId} {D : Nat → DataW H} {n k : Nat} (hk : k < n) {m : Nat} (hm : m ∈ (D k).weights Tryz.prog e) : m ∈ DataW.weightsAll Tryz.prog e ((List.range n).map D) := by
 have : ∀ (l : List (DataW H)), D k ∈ l → m ∈ DataW.weightsAll Tryz.prog e l := fun l => by
  induction l with
  |nil => intro h; cases h
  |cons a l ih =>
   intro h
   rw [DataW.weightsAll, List.mem_append]
   rcases List.mem_cons.1 h with h | h
   ·exact .inl (h ▸ hm)
   ·exact .inr (ih h)
 exact this _ (List.mem_map.2 ⟨k, List.mem_range.2 hk, rfl⟩)
theorem items_cell {fuel : Nat} {cs : List Value} {x : DataW H × List MemPlace} (hf : DataW.trod enc Tryz.prog w 0 (fun _ => true) true fuel 29 cs = some x) :
  ∃ (A : Option Addr) (l : List IV) (cap : Nat), cs = [.slice A l.length cap] ∧ ItsRd w A l ∧
   ((∀ k ∈ x.1.weights Tryz.prog 29, k ≤ reachBytes) → l.length ≤ 8796093022208 ∧ ∀ p ∈ l, p.key.length ≤ 140737488355328 ∧ p.val.length ≤ 140737488355328) := by
 rcases Go.Deep.open_slice Tryz.underlying29 hf with ⟨h1, h2⟩ | ⟨a, l0, c0, m, n, D, Pl, h1, hba, hlc, hcm, hm, hx, hcell⟩
 ·exact ⟨none, [], 0, h1, ⟨Items.nil _ _ _ _, (fun p hp => nomatch hp)⟩, fun _ => ⟨Nat.zero_le _, fun p hp => nomatch hp⟩⟩
 ·simp only [if_true] at hm
  subst hm
  rw [show Tryz.prog.cellsOf 39 = 2 by kernel_rfl] at hcell
  have each : ∀ i, i < l0 → ∃ p : IV, (∀ j u, (encI p)[j]? = some u → w.cell? (a.add (i * 2 + j)) = some u) ∧ ItRd w p ∧ ((∀ k ∈ (D i).weights Tryz.prog 39, k ≤ reachBytes) → p.key.length ≤ 140737488355328 ∧ p.val.length ≤ 140737488355328) := fun i hi => by
   obtain ⟨cs', h1, h2⟩ := hcell i (by omega)
   obtain ⟨_, hlen, hcc⟩ := World.cells?_some h1
   obtain ⟨p, rfl, h3⟩ := item_cells h2
   refine ⟨p, fun j u hu => ?_, h3⟩
   have hj : j < 2 := (List.getElem?_eq_some_iff.1 hu).1
   have := hcc j hj
   rw [Go.Deep.add_add] at this
   rw [this]; exact hu
  haveI : Inhabited IV := ⟨⟨[], none, 0, [], none, 0⟩⟩
  obtain ⟨q, hq⟩ := Go.Deep.choose_lt each
  have hmem : ∀ p ∈ (List.range l0).map q, ∃ i, i < l0 ∧ q i = p := fun p hp => by
   obtain ⟨i, hi, e⟩ := List.mem_map.1 hp
   exact ⟨i, List.mem_range.1 hi, e⟩
  refine ⟨some a, (List.range l0).map q, m, by simp [h1], ⟨fun hp => ?_, fun p hp => ?_⟩, fun hw => ?_⟩
  ·have hl : 0 < l0 := by
    rcases Nat.eq_zero_or_pos l0 with h | h
    ·exact absurd (by rw [h]; rfl) hp
    ·exact h
   have hab : a.block < w.heap.size := by
    have := World.block_lt_of_cell? w _ ((hq 0 hl).1 0 _ rfl)
    rwa [block_of_add] at this
   refine ⟨a, rfl, hab, fun j u hu => ?_⟩
   have hj : j < l0 * 2 := by
    have := (List.getElem?_eq_some_iff.1 hu).1
    rw [flat_len kindI.len] at this
    simpa using this
   have h3 := Nat.div_add_mod j 2
   have hk : j / 2 < l0 := by omega
   have := flat_get kindI.len ((List.range l0).map q) (j / 2) (q (j / 2)) (j % 2) (by simp [hk]) (Nat.mod_lt _ (by decide))
   rw [show j / 2 * 2 + j % 2 = j by omega] at this
   rw [this] at hu
   have hc := (hq (j / 2) hk).1 _ _ hu
   rwa [show j / 2 * 2 + j % 2 = j by omega] at hc
  ·obtain ⟨i, hi, rfl⟩ := hmem p hp
   exact (hq i hi).2.1
  ·rw [hx] at hw
   simp only [DataW.weights, Tryz.underlying29, List.mem_cons, List.mem_append] at hw
   refine ⟨?_, fun p hp => ?_⟩
   ·have h := hw _ (.inl rfl)
    rw [show Tryz.prog.bytesOf 39 = 48 by kernel_rfl] at h
    have := reachBytes_lt
    simp only [List.length_map, List.length_range] at h ⊢
    omega
   ·obtain ⟨i, hi, rfl⟩ := hmem p hp
    exact (hq i hi).2.2 fun k hk => hw k (.inr (.inl (weights_allI hi hk)))
theorem open_items {r : Reach} {b0 : Nat} {v : Value} {d : DataW H} {p : List MemPlace} (hv : Value.okWide Tryz.prog w r b0 29 v) (h : DataW.Trod enc Tryz.prog w 0 (fun _ => true) true 29 v d p) :
  ∃ (A : Option Addr) (l : List IV) (c : Nat), v = .slice A l.length c ∧ ItsRd w A l ∧ ((∀ k ∈ d.weights Tryz.prog 29, k ≤ reachBytes) → l.length ≤ 8796093022208 ∧ ∀ p ∈ l, p.key.length ≤ 140737488355328 ∧ p.val.length ≤ 140737488355328) := by
 obtain ⟨a0, l0, c0, rfl⟩ := okWide_slice Tryz.underlying29 hv
 obtain ⟨fuel, hf⟩ := h
 obtain ⟨A, l, c, e, h1, h2⟩ := items_cell hf
 simp only [Value.cells, List.cons.injEq, and_true] at e
 exact ⟨A, l, c, e, h1, h2⟩
end
end Go.Proofs.YtoiamjglklgcdaaGreat
