/- How a plan comes in. -/
import Derived.Test.YtjlnjjmomohpaaaGreatOpenRing
import Derived.Test.YtjlnjjmomohpaaaGreatPlanB
set_option maxRecDepth 100000
namespace Go.Proofs.YtjlnjjmomohpaaaGreat
open Go.Joins Go.ChangeShapes Go.WideShapes Go.ChangeAt Go.RowKit

section
variable {H : Type} {enc : TypeId × Value → H} {w : World}
theorem array2 {α : Type} {cs : Array α} (h : cs.size = 2) : ∃ a b, cs = #[a, b] := by
 match cs, h with
 |⟨[a, b]⟩, _ => exact ⟨a, b, rfl⟩
theorem room_ring {d : DataW H} {n : Nat} (hd : n = 0 ∨ ∃ els sp, d = .slice els sp ∧ els.length = n) (hw : ∀ k ∈ d.weights Tryz.prog 23, k ≤ reachBytes) : n * 16 ≤ 140737488355328 := by
 rcases hd with rfl | ⟨els, sp, rfl, rfl⟩
 ·omega
 ·have h := hw ((els.length + sp.length) * Tryz.prog.bytesOf 56) (by simp [DataW.weights, Tryz.underlying23])
  rw [show Tryz.prog.bytesOf 56 = 16 by kernel_rfl] at h
  have := reachBytes_lt
  omega
theorem ring_cell {fuel : Nat} {cs : List Value} {x : DataW H × List MemPlace} (hf : DataW.trod enc Tryz.prog w 0 (fun _ => true) true fuel 23 cs = some x) :
  ∃ (A : Option Addr) (ps : List (Int × Int)) (cap : Nat), cs = [.slice A ps.length cap] ∧ NilOk A cap ∧ Pts w w.heap.size A ps ∧ ps.length ≤ cap ∧ (ps.length = 0 ∨ ∃ els sp, x.1 = .slice els sp ∧ els.length = ps.length) := by
 rcases Go.Deep.open_slice_pairs Tryz.underlying23 Tryz.underlying56 (by kernel_rfl) rfl rfl (by kernel_rfl) (by kernel_rfl) hf with ⟨h1, h2⟩ | ⟨a, l0, c0, m, n, V0, V1, D0, D1, P0, P1, h1, hba, hlc, hcm, hm, hx, hcell⟩
 ·exact ⟨none, [], 0, h1, fun _ => rfl, fun hp => absurd hp (by simp), Nat.le_refl _, Or.inl rfl⟩
 ·simp only [if_true] at hm
  subst hm
  have hcs := fun i (hi : i < l0) => hcell i (by omega)
  have each : ∀ i, i < l0 → ∃ q : Int × Int, V0 i = .int .i64 q.1 ∧ V1 i = .int .i64 q.2 := fun i hi => by
   obtain ⟨-, -, t0, t1⟩ := hcs i hi
   obtain ⟨x, e0, -, -⟩ := DataW.trod_int Tryz.underlying3 t0
   obtain ⟨y, e1, -, -⟩ := DataW.trod_int Tryz.underlying3 t1
   exact ⟨(x, y), by simpa using e0, by simpa using e1⟩
  obtain ⟨q, hq⟩ := Go.Deep.choose_lt each
  refine ⟨some a, (List.range l0).map q, m, by simp [h1], fun h => (by cases h), fun hp => ?_, by simp; omega, Or.inr ⟨_, _, by rw [hx], by simp⟩⟩
  have hl : 0 < l0 := by simpa using hp
  have hab : a.block < w.heap.size := by
   have := World.block_lt_of_cell? w _ (hcs 0 hl).1
   rwa [block_of_add] at this
  refine ⟨a, rfl, hab, fun k p hk => ?_⟩
  have hkl : k < l0 := by
   have := (List.getElem?_eq_some_iff.1 hk).1
   simpa using this
  obtain rfl : q k = p := by simpa [hkl] using hk
  obtain ⟨c0, c1, -, -⟩ := hcs k hkl
  obtain ⟨e0, e1⟩ := hq k hkl
  exact ⟨by rw [c0, e0], by rw [Go.Deep.add_add, c1, e1]⟩
theorem list3 {α : Type} {cs : List α} (h : cs.length = 3) : ∃ a b c, cs = [a, b, c] := by
 match cs, h with
 |[a, b, c], _ => exact ⟨a, b, c, rfl⟩
theorem trod_struct3 {P : Program} {base : Nat} {spare : Nat → Bool} {held : Bool} {t : TypeId} {f0 f1 f2 : Field} {fuel : Nat} {cs : List Value} {x : DataW H × List MemPlace} (ht : P.underlying t = some (.struct #[f0, f1, f2])) (h : DataW.trod enc P w base spare held fuel t cs = some x) :
  ∃ y0 y1 y2 n, x = (.agg [y0.1, y1.1, y2.1], y0.2 ++ (y1.2 ++ y2.2)) ∧ cs.length = P.cellsOf t ∧ DataW.trod enc P w base spare held n f0.type ((cs.drop f0.offset).take (P.cellsOf f0.type)) = some y0 ∧
   DataW.trod enc P w base spare held n f1.type ((cs.drop f1.offset).take (P.cellsOf f1.type)) = some y1 ∧ DataW.trod enc P w base spare held n f2.type ((cs.drop f2.offset).take (P.cellsOf f2.type)) = some y2 := by
 obtain ⟨xs, n, _, rfl, hl, hlen, hf⟩ := DataW.trod_struct ht h
 obtain ⟨y0, y1, y2, rfl⟩ := list3 hlen
 exact ⟨y0, y1, y2, n, by simp, hl, hf 0 f0 rfl, hf 1 f1 rfl, hf 2 f2 rfl⟩
theorem parcel_cells {fuel : Nat} {cs : List Value} {x : DataW H × List MemPlace} (hf : DataW.trod enc Tryz.prog w 0 (fun _ => true) true fuel 58 cs = some x) :
  ∃ p : PV, cs = encV p ∧ Pts w w.heap.size p.A p.par.ring ∧ NilOk p.A p.cap ∧ p.par.ring.length ≤ p.cap ∧ p.par.own.size ≤ maxLen ∧ ((∀ k ∈ x.1.weights Tryz.prog 58, k ≤ reachBytes) → p.par.ring.length * 16 ≤ 140737488355328) := by
 obtain ⟨y0, y1, y2, k, rfl, hl, g0, g1, g2⟩ := trod_struct3 Tryz.underlying58 hf
 obtain ⟨v0, v1, v2, rfl⟩ := list3 (hl.trans (show Tryz.prog.cellsOf 58 = 3 by kernel_rfl))
 simp only [show Tryz.prog.cellsOf 3 = 1 by kernel_rfl, show Tryz.prog.cellsOf 23 = 1 by kernel_rfl, show Tryz.prog.cellsOf 9 = 1 by kernel_rfl, List.drop_zero, List.take_succ_cons, List.take_zero, List.drop_succ_cons] at g0 g1 g2
 obtain ⟨id, e0, -, -⟩ := DataW.trod_int Tryz.underlying3 g0
 obtain ⟨A, ps, cap, e1, hnil, hpr, hcp, hd⟩ := ring_cell g1
 obtain ⟨s, e2, -, hs⟩ := DataW.trod_string Tryz.underlying9 g2
 simp only [List.cons.injEq, and_true] at e0 e1 e2
 subst e0; subst e1; subst e2
 refine ⟨⟨⟨id, ps, s⟩, A, cap⟩, rfl, hpr, hnil, hcp, hs, fun hw => room_ring hd fun k hk => hw k ?_⟩
 simp only [DataW.weights, Tryz.underlying58, List.map_cons, List.map_nil, DataW.weightsEach, List.mem_append]
 exact .inr (.inl hk)
theorem weights_all {e : TypeId} {D : Nat → DataW H} {n k : Nat} (hk : k < n) {m : Nat} (hm : m ∈ (D k).weights Tryz.prog e) : m ∈ DataW.weightsAll Tryz.prog e ((List.range n).map D) := by
 have : ∀ (l : List (DataW H)), D k ∈ l → m ∈ DataW.weightsAll Tryz.prog e l := fun l => by
  induction l with
  |nil => intro h; cases h
  |cons a l ih =>
   intro h
   rw [DataW.weightsAll, List.mem_append]
   rcases List.mem_cons.1 h with h | h
   ·exact .inl (h ▸ hm)
   ·exact .inr (ih h)
 exact this _ (List.mem_map.2 ⟨k, List.mem_range.2 hk, rfl⟩)
theorem parcels_cell {fuel : Nat} {cs : List Value} {x : DataW H × List MemPlace} (hf : DataW.trod enc Tryz.prog w 0 (fun _ => true) true fuel 24 cs = some x) :
  ∃ (A : Option Addr) (l : List PV) (cap : Nat), cs = [.slice A l.length cap] ∧ Items w w.heap.size A encV l ∧ (∀ p ∈ l, Pts w w.heap.size p.A p.par.ring ∧ NilOk p.A p.cap ∧ p.par.ring.length ≤ p.cap ∧ p.par.own.size ≤ maxLen) ∧
   ((∀ k ∈ x.1.weights Tryz.prog 24, k ≤ reachBytes) → l.length ≤ 8796093022208 ∧ ∀ p ∈ l, p.par.ring.length * 16 ≤ 140737488355328) := by
 rcases Go.Deep.open_slice Tryz.underlying24 hf with ⟨h1, h2⟩ | ⟨a, l0, c0, m, n, D, Pl, h1, hba, hlc, hcm, hm, hx, hcell⟩
 ·exact ⟨none, [], 0, h1, Items.nil _ _ _ _, (fun p hp => nomatch hp), fun _ => ⟨Nat.zero_le _, fun p hp => nomatch hp⟩⟩
 ·simp only [if_true] at hm
  subst hm
  rw [show Tryz.prog.cellsOf 58 = 3 by kernel_rfl] at hcell
  have each : ∀ i, i < l0 → ∃ p : PV, (∀ j u, (encV p)[j]? = some u → w.cell? (a.add (i * 3 + j)) = some u) ∧ Pts w w.heap.size p.A p.par.ring ∧ NilOk p.A p.cap ∧ p.par.ring.length ≤ p.cap ∧ p.par.own.size ≤ maxLen ∧ ((∀ k ∈ (D i).weights Tryz.prog 58, k ≤ reachBytes) → p.par.ring.length * 16 ≤ 140737488355328) := fun i hi => by
   obtain ⟨cs', h1, h2⟩ := hcell i (by omega)
   obtain ⟨_, hlen, hcc⟩ := World.cells?_some h1
   obtain ⟨p, rfl, h3⟩ := parcel_cells h2
   refine ⟨p, fun j u hu => ?_, h3⟩
   have hj : j < 3 := (List.getElem?_eq_some_iff.1 hu).1
   have := hcc j hj
   rw [Go.Deep.add_add] at this
   rw [this]; exact hu
  haveI : Inhabited PV := ⟨⟨⟨0, [], ⟨#[]⟩⟩, none, 0⟩⟩
  obtain ⟨q, hq⟩ := Go.Deep.choose_lt each
  have hmem : ∀ p ∈ (List.range l0).map q, ∃ i, i < l0 ∧ q i = p := fun p hp => by
   obtain ⟨i, hi, e⟩ := List.mem_map.1 hp
   exact ⟨i, List.mem_range.1 hi, e⟩
  refine ⟨some a, (List.range l0).map q, m, by simp [h1], fun hp => ?_, fun p hp => ?_, fun hw => ?_⟩
  ·have hl : 0 < l0 := by
    rcases Nat.eq_zero_or_pos l0 with h | h
    ·exact absurd (by rw [h]; rfl) hp
    ·exact h
   have hab : a.block < w.heap.size := by
    have := World.block_lt_of_cell? w _ ((hq 0 hl).1 0 _ rfl)
    rwa [block_of_add] at this
   refine ⟨a, rfl, hab, fun j u hu => ?_⟩
   have hj : j < l0 * 3 := by
    have := (List.getElem?_eq_some_iff.1 hu).1
    rw [flat_len kindV.len] at this
    simpa using this
   have h3 := Nat.div_add_mod j 3
   have hk : j / 3 < l0 := by omega
   have := flat_get kindV.len ((List.range l0).map q) (j / 3) (q (j / 3)) (j % 3) (by simp [hk]) (Nat.mod_lt _ (by decide))
   rw [show j / 3 * 3 + j % 3 = j by omega] at this
   rw [this] at hu
   have hc := (hq (j / 3) hk).1 _ _ hu
   rwa [show j / 3 * 3 + j % 3 = j by omega] at hc
  ·obtain ⟨i, hi, rfl⟩ := hmem p hp
   obtain ⟨-, h2, h3, h4, h5, -⟩ := hq i hi
   exact ⟨h2, h3, h4, h5⟩
  ·rw [hx] at hw
   simp only [DataW.weights, Tryz.underlying24, List.mem_cons, List.mem_append] at hw
   refine ⟨?_, fun p hp => ?_⟩
   ·have h := hw _ (.inl rfl)
    rw [show Tryz.prog.bytesOf 58 = 48 by kernel_rfl] at h
    have := reachBytes_lt
    simp only [List.length_map, List.length_range] at h ⊢
    omega
   ·obtain ⟨i, hi, rfl⟩ := hmem p hp
    exact (hq i hi).2.2.2.2.2 fun k hk => hw k (.inr (.inl (weights_all hi hk)))
theorem open_plan {r : Reach} {b0 : Nat} {v : Value} {d : DataW H} {p : List MemPlace} (hv : Value.okWide Tryz.prog w r b0 26 v) (h : DataW.Trod enc Tryz.prog w 0 (fun _ => true) true 26 v d p) :
  ∃ (o : List (Int × Int)) (Ao : Option Addr) (co : Nat) (l : List PV) (Ap : Option Addr) (cp : Nat), v = .agg #[.slice Ao o.length co, .slice Ap l.length cp] ∧ (∀ x ∈ l, x.par.own.size ≤ maxLen) ∧
   ((∀ k ∈ d.weights Tryz.prog 26, k ≤ reachBytes) → l.length ≤ 8796093022208 ∧ PlanAt w o Ao co l Ap cp) := by
 obtain ⟨cs, rfl, hsz⟩ := okWide_struct Tryz.underlying26 hv
 obtain ⟨c0, c1, rfl⟩ := array2 (hsz.trans (show Tryz.prog.cellsOf 26 = 2 by kernel_rfl))
 obtain ⟨fuel, hf⟩ := h
 obtain ⟨y0, y1, m, hx, -, h0, h1⟩ := trod_struct2 Tryz.underlying26 hf
 simp only [show Tryz.prog.cellsOf 23 = 1 by kernel_rfl, show Tryz.prog.cellsOf 24 = 1 by kernel_rfl, Value.cells, List.drop_zero, List.take_succ_cons, List.take_zero, List.drop_succ_cons] at h0 h1
 obtain ⟨Ao, o, co, e0, hnil, hpr, hcp, hd⟩ := ring_cell h0
 obtain ⟨Ap, l, cp, e1, hit, hl, hw1⟩ := parcels_cell h1
 simp only [List.cons.injEq, and_true] at e0 e1
 subst e0; subst e1
 obtain ⟨rfl, rfl⟩ := Prod.mk.inj hx
 refine ⟨o, Ao, co, l, Ap, cp, rfl, fun x hx => (hl x hx).2.2.2, fun hw => ?_⟩
 simp only [DataW.weights, Tryz.underlying26, List.map_cons, List.map_nil, DataW.weightsEach, List.mem_append] at hw
 obtain ⟨a1, a2⟩ := hw1 fun k hk => hw k (.inr (.inl hk))
 exact ⟨a1, ⟨hit, fun x hx => ⟨(hl x hx).1, (hl x hx).2.1, a2 x hx⟩⟩, hpr, hnil, room_ring hd fun k hk => hw k (.inl hk), hcp, fun x hx => (hl x hx).2.2.1⟩
end
end Go.Proofs.YtjlnjjmomohpaaaGreat
