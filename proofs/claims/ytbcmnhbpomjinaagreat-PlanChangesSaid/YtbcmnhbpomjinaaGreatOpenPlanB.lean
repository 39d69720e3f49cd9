/- How a plan comes in, with what its parcels' numbers are. -/
import Derived.Test.YtbcmnhbpomjinaaGreatOpenPlan
import Derived.Test.YtbcmnhbpomjinaaGreatMaps
set_option maxRecDepth 100000
namespace Go.Proofs.YtbcmnhbpomjinaaGreat
open Go.Joins Go.ChangeShapes Go.WideShapes Go.ChangeAt Go.RowKit
section
variable {H : Type} {enc : TypeId × Value → H} {w : World}
/-- A parcel's cells. -/
theorem parcel_cells2 {fuel : Nat} {cs : List Value} {x : DataW H × List MemPlace} (hf : DataW.trod enc Tryz.prog w 0 (fun _ => true) true fuel 34 cs = some x) :
    ∃ p : PV, cs = encV p ∧ Pts w w.heap.size p.A p.par.ring ∧ NilOk p.A p.cap ∧ p.par.ring.length ≤ p.cap ∧ In64 p.par.id ∧ ((∀ k ∈ x.1.weights Tryz.prog 34, k ≤ reachBytes) → p.par.ring.length * 16 ≤ 140737488355328) := by
  obtain ⟨y0, y1, y2, k, rfl, hl, g0, g1, g2⟩ := trod_struct3 Tryz.underlying34 hf
  obtain ⟨v0, v1, v2, rfl⟩ := list3 (hl.trans (show Tryz.prog.cellsOf 34 = 3 by kernel_rfl))
  simp only [show Tryz.prog.cellsOf 3 = 1 by kernel_rfl, show Tryz.prog.cellsOf 23 = 1 by kernel_rfl, show Tryz.prog.cellsOf 9 = 1 by kernel_rfl, List.drop_zero, List.take_succ_cons, List.take_zero, List.drop_succ_cons] at g0 g1 g2
  obtain ⟨id, e0, -, w0⟩ := DataW.trod_int Tryz.underlying3 g0
  have hs : In64 id := by have := bounds_i64 w0; unfold In64; omega
  obtain ⟨A, ps, cap, e1, hnil, hpr, hcp, hd⟩ := ring_cell g1
  obtain ⟨s, e2, -, -⟩ := DataW.trod_string Tryz.underlying9 g2
  simp only [List.cons.injEq, and_true] at e0 e1 e2
  subst e0; subst e1; subst e2
  refine ⟨⟨⟨id, ps, s⟩, A, cap⟩, rfl, hpr, hnil, hcp, hs, fun hw => room_ring hd fun k hk => hw k ?_⟩
  simp only [DataW.weights, Tryz.underlying34, List.map_cons, List.map_nil, DataW.weightsEach, List.mem_append]
  exact .inr (.inl hk)
/-- A row of parcels. -/
theorem parcels_cell2 {fuel : Nat} {cs : List Value} {x : DataW H × List MemPlace} (hf : DataW.trod enc Tryz.prog w 0 (fun _ => true) true fuel 24 cs = some x) :
    ∃ (A : Option Addr) (l : List PV) (cap : Nat), cs = [.slice A l.length cap] ∧ Items w w.heap.size A encV l ∧ (∀ p ∈ l, Pts w w.heap.size p.A p.par.ring ∧ NilOk p.A p.cap ∧ p.par.ring.length ≤ p.cap ∧ In64 p.par.id) ∧
      ((∀ k ∈ x.1.weights Tryz.prog 24, k ≤ reachBytes) → l.length ≤ 8796093022208 ∧ ∀ p ∈ l, p.par.ring.length * 16 ≤ 140737488355328) := by
  rcases Go.Deep.open_slice Tryz.underlying24 hf with ⟨h1, h2⟩ | ⟨a, l0, c0, m, n, D, Pl, h1, hba, hlc, hcm, hm, hx, hcell⟩
  · exact ⟨none, [], 0, h1, Items.nil _ _ _ _, (fun p hp => nomatch hp), fun _ => ⟨Nat.zero_le _, fun p hp => nomatch hp⟩⟩
  · simp only [if_true] at hm
    subst hm
    rw [show Tryz.prog.cellsOf 34 = 3 by kernel_rfl] at hcell
    have each : ∀ i, i < l0 → ∃ p : PV, (∀ j u, (encV p)[j]? = some u → w.cell? (a.add (i * 3 + j)) = some u) ∧ Pts w w.heap.size p.A p.par.ring ∧ NilOk p.A p.cap ∧ p.par.ring.length ≤ p.cap ∧ In64 p.par.id ∧ ((∀ k ∈ (D i).weights Tryz.prog 34, k ≤ reachBytes) → p.par.ring.length * 16 ≤ 140737488355328) := fun i hi => by
      obtain ⟨cs', h1, h2⟩ := hcell i (by omega)
      obtain ⟨_, hlen, hcc⟩ := World.cells?_some h1
      obtain ⟨p, rfl, h3⟩ := parcel_cells2 h2
      refine ⟨p, fun j u hu => ?_, h3⟩
      have hj : j < 3 := (List.getElem?_eq_some_iff.1 hu).1
      have := hcc j hj
      rw [Go.Deep.add_add] at this
      rw [this]; exact hu
    haveI : Inhabited PV := ⟨⟨⟨0, [], ⟨#[]⟩⟩, none, 0⟩⟩
    obtain ⟨q, hq⟩ := Go.Deep.choose_lt each
    have hmem : ∀ p ∈ (List.range l0).map q, ∃ i, i < l0 ∧ q i = p := fun p hp => by
      obtain ⟨i, hi, e⟩ := List.mem_map.1 hp
      exact ⟨i, List.mem_range.1 hi, e⟩
    refine ⟨some a, (List.range l0).map q, m, by simp [h1], fun hp => ?_, fun p hp => ?_, fun hw => ?_⟩
    · have hl : 0 < l0 := by
        rcases Nat.eq_zero_or_pos l0 with h | h
        · exact absurd (by rw [h]; rfl) hp
        · exact h
      have hab : a.block < w.heap.size := by
        have := World.block_lt_of_cell? w _ ((hq 0 hl).1 0 _ rfl)
        rwa [block_of_add] at this
      refine ⟨a, rfl, hab, fun j u hu => ?_⟩
      have hj : j < l0 * 3 := by
        have := (List.getElem?_eq_some_iff.1 hu).1
        rw [flat_len kindV.len] at this
        simpa using this
      have h3 := Nat.div_add_mod j 3
      have hk : j / 3 < l0 := by omega
      have := flat_get kindV.len ((List.range l0).map q) (j / 3) (q (j / 3)) (j % 3) (by simp [hk]) (Nat.mod_lt _ (by decide))
      rw [show j / 3 * 3 + j % 3 = j by omega] at this
      rw [this] at hu
      have hc := (hq (j / 3) hk).1 _ _ hu
      rwa [show j / 3 * 3 + j % 3 = j by omega] at hc
    · obtain ⟨i, hi, rfl⟩ := hmem p hp
      obtain ⟨-, h2, h3, h4, h5, -⟩ := hq i hi
      exact ⟨h2, h3, h4, h5⟩
    · rw [hx] at hw
      simp only [DataW.weights, Tryz.underlying24, List.mem_cons, List.mem_append] at hw
      refine ⟨?_, fun p hp => ?_⟩
      · have h := hw _ (.inl rfl)
        rw [show Tryz.prog.bytesOf 34 = 48 by kernel_rfl] at h
        have := reachBytes_lt
        simp only [List.length_map, List.length_range] at h ⊢
        omega
      · obtain ⟨i, hi, rfl⟩ := hmem p hp
        exact (hq i hi).2.2.2.2.2 fun k hk => hw k (.inr (.inl (weights_all hi hk)))
theorem open_plan2 {r : Reach} {b0 : Nat} {v : Value} {d : DataW H} {p : List MemPlace} (hv : Value.okWide Tryz.prog w r b0 26 v) (h : DataW.Trod enc Tryz.prog w 0 (fun _ => true) true 26 v d p) :
    ∃ (o : List (Int × Int)) (Ao : Option Addr) (co : Nat) (l : List PV) (Ap : Option Addr) (cp : Nat), v = .agg #[.slice Ao o.length co, .slice Ap l.length cp] ∧ (∀ x ∈ l, In64 x.par.id) ∧
      ((∀ k ∈ d.weights Tryz.prog 26, k ≤ reachBytes) → l.length ≤ 8796093022208 ∧ PlanAt w o Ao co l Ap cp) := by
  obtain ⟨cs, rfl, hsz⟩ := okWide_struct Tryz.underlying26 hv
  obtain ⟨c0, c1, rfl⟩ := array2 (hsz.trans (show Tryz.prog.cellsOf 26 = 2 by kernel_rfl))
  obtain ⟨fuel, hf⟩ := h
  obtain ⟨y0, y1, m, hx, -, h0, h1⟩ := trod_struct2 Tryz.underlying26 hf
  simp only [show Tryz.prog.cellsOf 23 = 1 by kernel_rfl, show Tryz.prog.cellsOf 24 = 1 by kernel_rfl, Value.cells, List.drop_zero, List.take_succ_cons, List.take_zero, List.drop_succ_cons] at h0 h1
  obtain ⟨Ao, o, co, e0, hnil, hpr, hcp, hd⟩ := ring_cell h0
  obtain ⟨Ap, l, cp, e1, hit, hl, hw1⟩ := parcels_cell2 h1
  simp only [List.cons.injEq, and_true] at e0 e1
  subst e0; subst e1
  obtain ⟨rfl, rfl⟩ := Prod.mk.inj hx
  refine ⟨o, Ao, co, l, Ap, cp, rfl, fun x hx => (hl x hx).2.2.2, fun hw => ?_⟩
  simp only [DataW.weights, Tryz.underlying26, List.map_cons, List.map_nil, DataW.weightsEach, List.mem_append] at hw
  obtain ⟨a1, a2⟩ := hw1 fun k hk => hw k (.inr (.inl hk))
  exact ⟨a1, ⟨hit, fun x hx => ⟨(hl x hx).1, (hl x hx).2.1, a2 x hx⟩⟩, hpr, hnil, room_ring hd fun k hk => hw k (.inl hk), hcp, fun x hx => (hl x hx).2.2.1⟩
end
end Go.Proofs.YtbcmnhbpomjinaaGreat
