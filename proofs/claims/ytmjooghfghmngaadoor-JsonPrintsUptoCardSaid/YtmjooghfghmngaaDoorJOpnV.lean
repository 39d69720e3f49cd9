/- How a value comes in, however deep. -/
import Derived.Test.YtmjooghfghmngaaDoorJOpenB
import Derived.Test.YtmjooghfghmngaaDoorJOwn
import Derived.Test.YtmjooghfghmngaaDoorJSiz
set_option maxRecDepth 100000
namespace Go.Proofs.YtmjooghfghmngaaDoor
open Go.Joins Go.ChangeShapes Go.WideShapes Go.ChangeAt Go.RowKit

section
variable {H : Type} {enc : TypeId × Value → H} {w : World}
theorem cell_at_in {w : World} {a : Addr} {v : Value} (h : w.cell? a = some v) : a.block < w.heap.size := by
  apply Decidable.byContradiction
  intro hn
  unfold World.cell? at h
  rw [Array.getElem?_eq_none (by omega)] at h
  simp at h
theorem list4 {α : Type} {cs : List α} (h : cs.length = 4) : ∃ a b c d, cs = [a, b, c, d] := by
  match cs, h with
  | [a, b, c, d], _ => exact ⟨a, b, c, d, rfl⟩
theorem trod_struct4 {P : Program} {base : Nat} {spare : Nat → Bool} {held : Bool} {t : TypeId} {f0 f1 f2 f3 : Field} {fuel : Nat} {cs : List Value} {x : DataW H × List MemPlace} (ht : P.underlying t = some (.struct #[f0, f1, f2, f3])) (h : DataW.trod enc P w base spare held fuel t cs = some x) :
    ∃ y0 y1 y2 y3 n, x = (.agg [y0.1, y1.1, y2.1, y3.1], y0.2 ++ (y1.2 ++ (y2.2 ++ y3.2))) ∧ cs.length = P.cellsOf t ∧ DataW.trod enc P w base spare held n f0.type ((cs.drop f0.offset).take (P.cellsOf f0.type)) = some y0 ∧
      DataW.trod enc P w base spare held n f1.type ((cs.drop f1.offset).take (P.cellsOf f1.type)) = some y1 ∧ DataW.trod enc P w base spare held n f2.type ((cs.drop f2.offset).take (P.cellsOf f2.type)) = some y2 ∧
      DataW.trod enc P w base spare held n f3.type ((cs.drop f3.offset).take (P.cellsOf f3.type)) = some y3 := by
  obtain ⟨xs, n, _, rfl, hl, hlen, hf⟩ := DataW.trod_struct ht h
  obtain ⟨y0, y1, y2, y3, rfl⟩ := list4 hlen
  exact ⟨y0, y1, y2, y3, n, by simp, hl, hf 0 f0 rfl, hf 1 f1 rfl, hf 2 f2 rfl, hf 3 f3 rfl⟩
theorem bulk_one (d : DataW H) : 1 ≤ Rows.uptoBulk d := by
  cases d with
  | lit l => cases l <;> simp [Rows.uptoBulk]
  | nil => simp [Rows.uptoBulk]
  | ptr d => simp [Rows.uptoBulk]
  | slice elems spare => simp [Rows.uptoBulk]
  | agg parts => simp [Rows.uptoBulk]
  | iface t d => simp [Rows.uptoBulk]
  | map entries => simp [Rows.uptoBulk]
  | held h => simp [Rows.uptoBulk]
theorem bulk_part {d : DataW H} {l : List (DataW H)} (h : d ∈ l) : Rows.uptoBulk d ≤ Rows.uptoBulkAll l := by
  induction l with
  | nil => cases h
  | cons x r ih =>
    simp only [Rows.uptoBulkAll]
    rcases List.mem_cons.1 h with e | e
    · subst e; omega
    · have := ih e; omega
theorem sum_range {f : Nat → Nat} {g : Nat → DataW H} : ∀ {l : List Nat}, (∀ i ∈ l, f i ≤ Rows.uptoBulk (g i)) → (l.map f).sum ≤ Rows.uptoBulkAll (l.map g)
  | [], _ => Nat.zero_le _
  | i :: l, h => by
    have h1 := h i (by simp)
    have h2 := sum_range (l := l) fun j hj => h j (by simp [hj])
    simp only [List.map_cons, List.sum_cons, Rows.uptoBulkAll]
    omega
/-- A slice of strings. -/
theorem strs_cell {fuel : Nat} {cs : List Value} {x : DataW H × List MemPlace} (hf : DataW.trod enc Tryd.prog w 0 (fun _ => true) true fuel 22 cs = some x) :
    ∃ (v : Value) (ks : List ByteArray), cs = [v] ∧ StrsAt w (fun g => g < w.heap.size) v ks ∧ (∀ k ∈ ks, k.size ≤ maxLen) ∧ ks.length ≤ maxLen ∧ ((∀ k ∈ x.1.weights Tryd.prog 22, k ≤ reachBytes) → ks.length * 16 ≤ 140737488355328) ∧ sumK ks + 1 ≤ Rows.uptoBulk x.1 := by
  rcases Go.Deep.open_slice1 Tryd.underlying22 (by kernel_rfl) hf with ⟨h1, h2⟩ | ⟨a, l0, c0, m, n, V, D, Pl, h1, hba, hlc, hcm, hm, hx, hcell⟩
  · exact ⟨_, [], h1, ⟨none, 0, rfl, Nat.le_refl _, fun i t h => by cases h⟩, fun k h => (by cases h), Nat.zero_le _, fun _ => by simp, by have := bulk_one x.1; simp only [sumK]; omega⟩
  · simp only [if_true] at hm
    subst hm
    have each : ∀ i, i < l0 → ∃ q : ByteArray, w.cell? (a.add i) = some (.string q) ∧ q.size ≤ maxLen ∧ q.size + 1 ≤ Rows.uptoBulk (D i) := fun i hi => by
      obtain ⟨hc, ht⟩ := hcell i (by omega)
      obtain ⟨s, e0, ed, hs⟩ := DataW.trod_string Tryd.underlying9 ht
      have e1 : V i = .string s := by simpa using e0
      have e2 : D i = .lit (.string s.data.toList) := congrArg Prod.fst ed
      exact ⟨s, by rw [hc, e1], hs, by rw [e2]; simp only [Rows.uptoBulk]; rw [← Lib.size_eq]; exact Nat.le_refl _⟩
    haveI : Inhabited ByteArray := ⟨⟨#[]⟩⟩
    obtain ⟨q, hq⟩ := Go.Deep.choose_lt each
    refine ⟨_, (List.range l0).map q, h1, ⟨some a, m, by simp, by simpa using hlc, fun i t ht => ?_⟩, fun k hk => ?_, by simp; omega, fun hw => ?_, ?_⟩
    · have hil : i < l0 := by
        have := (List.getElem?_eq_some_iff.1 ht).1
        simpa using this
      obtain ⟨bl, o, sp⟩ := a
      have hi' := (hq i hil).1
      have hsp : sp = none := by
        have h0 := (hq 0 (by omega)).1
        simp only [Addr.add] at h0
        exact cell_spot h0
      subst hsp
      rw [show (⟨bl, o, none⟩ : Addr).add i = ⟨bl, o + i, none⟩ by simp [Addr.add]] at hi'
      refine ⟨bl, o, rfl, cell_at_in hi', ?_⟩
      rw [hi']
      have : ((List.range l0).map q)[i]? = some (q i) := by simp [hil]
      rw [this] at ht
      injection ht with ht
      rw [ht]
    · obtain ⟨i, hi, rfl⟩ := List.mem_map.1 hk
      exact (hq i (List.mem_range.1 hi)).2.1
    · rw [hx] at hw
      simp only [DataW.weights, Tryd.underlying22, List.mem_cons, List.mem_append] at hw
      have h := hw _ (.inl rfl)
      rw [show Tryd.prog.bytesOf 9 = 16 by kernel_rfl] at h
      have := reachBytes_lt
      simp only [List.length_map, List.length_range] at h ⊢
      omega
    · have hs := sum_range (f := fun i => (q i).size + 1) (g := D) (l := List.range l0) fun i hi => (hq i (List.mem_range.1 hi)).2.2
      have e : sumK ((List.range l0).map q) = ((List.range l0).map fun i => (q i).size + 1).sum := by
        generalize List.range l0 = l
        induction l with
        | nil => rfl
        | cons i l ih => simp only [List.map_cons, sumK, List.sum_cons, ih]
      rw [e, hx]
      simp only [Rows.uptoBulk]
      omega
theorem weights_part {e : TypeId} {D : Nat → DataW H} {n k : Nat} (hk : k < n) {m : Nat} (hm : m ∈ (D k).weights Tryd.prog e) : m ∈ DataW.weightsAll Tryd.prog e ((List.range n).map D) := by
  have : ∀ (l : List (DataW H)), D k ∈ l → m ∈ DataW.weightsAll Tryd.prog e l := fun l => by
    induction l with
    | nil => intro h; cases h
    | cons a l ih =>
      intro h
      rw [DataW.weightsAll, List.mem_append]
      rcases List.mem_cons.1 h with h | h
      · exact .inl (h ▸ hm)
      · exact .inr (ih h)
  exact this _ (List.mem_map.2 ⟨k, List.mem_range.2 hk, rfl⟩)
theorem add_quad (a : Addr) (i j : Nat) (h : a.spot = none) : (a.add (i * 4 + j)) = ⟨a.block, a.off + i * 4 + j, none⟩ := by
  obtain ⟨b, o, sp⟩ := a
  simp only at h
  subst h
  unfold Addr.add
  split
  · simp only [Addr.mk.injEq, true_and, and_true]; omega
  · simp only [Addr.mk.injEq, true_and, and_true]; omega
theorem value_cells : ∀ (b : Nat) {fuel : Nat} {cs : List Value} {x : DataW H × List MemPlace}, DataW.trod enc Tryd.prog w 0 (fun _ => true) true fuel 25 cs = some x → Rows.uptoBulk x.1 ≤ b →
    ∃ (p : PV) (j : JV), cs = p.cells ∧ VAt w (fun g => g < w.heap.size) b p j ∧ TM b j ∧ ((∀ k ∈ x.1.weights Tryd.prog 25, k ≤ reachBytes) → RM b j) ∧ szJ b j + 1 ≤ Rows.uptoBulk x.1
  | 0, _, _, x, _, hb => absurd hb (by have := bulk_one x.1; omega)
  | b + 1, fuel, cs, x, hf, hb => by
    obtain ⟨y0, y1, y2, y3, k, rfl, hl, g0, g1, g2, g3⟩ := trod_struct4 Tryd.underlying25 hf
    obtain ⟨v0, v1, v2, v3, rfl⟩ := list4 (hl.trans (show Tryd.prog.cellsOf 25 = 4 by kernel_rfl))
    simp only [show Tryd.prog.cellsOf 3 = 1 by kernel_rfl, show Tryd.prog.cellsOf 22 = 1 by kernel_rfl, show Tryd.prog.cellsOf 23 = 1 by kernel_rfl, show Tryd.prog.cellsOf 9 = 1 by kernel_rfl, List.drop_zero, List.take_succ_cons, List.take_zero, List.drop_succ_cons] at g0 g1 g2 g3
    obtain ⟨kk, e0, -, -⟩ := DataW.trod_int Tryd.underlying3 g0
    obtain ⟨t, e1, et, ht⟩ := DataW.trod_string Tryd.underlying9 g1
    obtain ⟨kv, ks, e2, hks, hkz, hkl, hkr, hkb⟩ := strs_cell g2
    simp only [List.cons.injEq, and_true] at e0 e1 e2
    subst e0; subst e1; subst e2
    have hb0 := bulk_one y0.1
    have hb3 := bulk_one y3.1
    have hb1 : Rows.uptoBulk y1.1 = t.size + 1 := by rw [et]; simp only [Rows.uptoBulk]; rw [← Lib.size_eq]
    have hkw : (∀ k ∈ (DataW.agg [y0.1, y1.1, y2.1, y3.1]).weights Tryd.prog 25, k ≤ reachBytes) → (∀ k ∈ y2.1.weights Tryd.prog 22, k ≤ reachBytes) ∧ ∀ k ∈ y3.1.weights Tryd.prog 23, k ≤ reachBytes := fun hw => by
      simp only [DataW.weights, Tryd.underlying25, List.map_cons, List.map_nil, DataW.weightsEach, List.mem_append] at hw
      exact ⟨fun k hk => hw k (.inr (.inr (.inl hk))), fun k hk => hw k (.inr (.inr (.inr (.inl hk))))⟩
    rcases Go.Deep.open_slice Tryd.underlying23 g3 with ⟨h1, h2⟩ | ⟨a, l0, c0, m, n, D, Pl, h1, hba, hlc, hcm, hm, hx, hcell⟩
    · obtain rfl : v3 = .slice none 0 0 := by simpa using h1
      exact ⟨⟨kk, t, v2, .slice none 0 0⟩, .mk kk t ks [], rfl, ⟨rfl, rfl, hks, none, 0, rfl, Nat.le_refl _, fun i x h => by cases h⟩, ⟨ht, hkz, hkl, Nat.zero_le _, fun x h => by cases h⟩, fun hw => ⟨hkr (hkw hw).1, by simp, fun x h => by cases h⟩, by simp only [szJ, sumX, Rows.uptoBulk, Rows.uptoBulkAll]; omega⟩
    · simp only [if_true] at hm
      subst hm
      rw [show Tryd.prog.cellsOf 25 = 4 by kernel_rfl] at hcell
      obtain rfl : v3 = .slice (some a) l0 m := by simpa using h1
      have hbl : Rows.uptoBulkAll ((List.range l0).map D) ≤ b := by
        simp only [Rows.uptoBulk, Rows.uptoBulkAll, hx] at hb
        omega
      have each : ∀ i, i < l0 → ∃ q : PV × JV, (∀ j u, q.1.cells[j]? = some u → w.cell? (a.add (i * 4 + j)) = some u) ∧ VAt w (fun g => g < w.heap.size) b q.1 q.2 ∧ TM b q.2 ∧ ((∀ k ∈ (D i).weights Tryd.prog 25, k ≤ reachBytes) → RM b q.2) ∧ szJ b q.2 + 1 ≤ Rows.uptoBulk (D i) := fun i hi => by
        obtain ⟨cs', c1, c2⟩ := hcell i (by omega)
        obtain ⟨_, hlen, hcc⟩ := World.cells?_some c1
        obtain ⟨p, j, rfl, h3⟩ := value_cells b c2 (Nat.le_trans (bulk_part (List.mem_map.2 ⟨i, List.mem_range.2 hi, rfl⟩)) hbl)
        refine ⟨(p, j), fun j u hu => ?_, h3⟩
        have hj : j < 4 := (List.getElem?_eq_some_iff.1 hu).1
        have := hcc j hj
        rw [Go.Deep.add_add] at this
        rw [this]; exact hu
      haveI : Inhabited (PV × JV) := ⟨⟨0, ⟨#[]⟩, .slice none 0 0, .slice none 0 0⟩, .mk 0 ⟨#[]⟩ [] []⟩
      obtain ⟨q, hq⟩ := Go.Deep.choose_lt each
      have hmem : ∀ x ∈ (List.range l0).map (fun i => (q i).2), ∃ i, i < l0 ∧ (q i).2 = x := fun p hp => by
        obtain ⟨i, hi, e⟩ := List.mem_map.1 hp
        exact ⟨i, List.mem_range.1 hi, e⟩
      have hml : m ≤ maxLen := hcm
      refine ⟨⟨kk, t, v2, .slice (some a) l0 m⟩, .mk kk t ks ((List.range l0).map (fun i => (q i).2)), rfl, ⟨rfl, rfl, hks, some a, m, by simp, by simpa using hlc, fun i x hi => ?_⟩, ⟨ht, hkz, hkl, by simp; omega, fun x hx' => ?_⟩, fun hw => ⟨hkr (hkw hw).1, ?_, fun x hx' => ?_⟩, ?_⟩
      · have hil : i < l0 := by
          have := (List.getElem?_eq_some_iff.1 hi).1
          simpa using this
        have e : (q i).2 = x := by simpa [hil] using hi
        obtain ⟨hc, hv, -⟩ := hq i hil
        have hsp : a.spot = none := by
          obtain ⟨bl, o, sp⟩ := a
          have h0 := (hq 0 (by omega)).1 0 _ rfl
          simp only [Addr.add] at h0
          exact cell_spot h0
        have c0 := hc 0 _ rfl
        have c1 := hc 1 _ rfl
        have c2 := hc 2 _ rfl
        have c3 := hc 3 _ rfl
        rw [add_quad a i _ hsp] at c0 c1 c2 c3
        have hA : some a = some ⟨a.block, a.off, none⟩ := by
          obtain ⟨bl, o, sp⟩ := a
          simp only at hsp
          rw [hsp]
        exact ⟨a.block, a.off, (q i).1, hA, cell_at_in (a := ⟨a.block, a.off + i * 4 + 0, none⟩) c0, c0, c1, c2, c3, e ▸ hv⟩
      · obtain ⟨i, hi, rfl⟩ := hmem x hx'
        exact (hq i hi).2.2.1
      · have hw3 := (hkw hw).2
        rw [hx] at hw3
        simp only [DataW.weights, Tryd.underlying23, List.mem_cons, List.mem_append] at hw3
        have h := hw3 _ (.inl rfl)
        rw [show Tryd.prog.bytesOf 25 = 72 by kernel_rfl] at h
        have := reachBytes_lt
        simp only [List.length_map, List.length_range] at h ⊢
        omega
      · obtain ⟨i, hi, rfl⟩ := hmem x hx'
        have hw3 := (hkw hw).2
        rw [hx] at hw3
        simp only [DataW.weights, Tryd.underlying23, List.mem_cons, List.mem_append] at hw3
        exact (hq i hi).2.2.2.1 fun k hk => hw3 k (.inr (.inl (weights_part hi hk)))
      · have hs := sum_range (f := fun i => szJ b (q i).2 + 1) (g := D) (l := List.range l0) fun i hi => (hq i (List.mem_range.1 hi)).2.2.2.2
        have e : sumX (szJ b) ((List.range l0).map fun i => (q i).2) = ((List.range l0).map fun i => szJ b (q i).2 + 1).sum := by
          generalize List.range l0 = l
          induction l with
          | nil => rfl
          | cons i l ih => simp only [List.map_cons, sumX, List.sum_cons, ih]
        rw [szJ, e]
        simp only [Rows.uptoBulk, Rows.uptoBulkAll, hx] at hb3 ⊢
        omega
theorem open_bytes2 {r : Reach} {b0 : Nat} {v : Value} {d : DataW H} {p : List MemPlace} (hv : Value.okWide Tryd.prog w r b0 26 v) (h : DataW.Trod enc Tryd.prog w 0 (fun _ => true) true 26 v d p) :
    ∃ (A : Option Addr) (xs : List UInt8) (cap : Nat), v = .slice A xs.length cap ∧ Lib.BytesAt w A xs.length xs ∧ (A = none → cap = 0) ∧ ((∀ k ∈ d.weights Tryd.prog 26, k ≤ reachBytes) → xs.length ≤ 140737488355328) := by
  have hv2 := hv
  obtain ⟨A, xs, cap, e, hB, hn⟩ := open_bytes hv h
  refine ⟨A, xs, cap, e, hB, hn, fun hw => ?_⟩
  obtain ⟨fuel, hf⟩ := h
  rcases Go.Deep.open_slice1 Tryd.underlying26 (by kernel_rfl) hf with ⟨h1, h2⟩ | ⟨a, len, cap', m, n, V, D, Pl, h1, hba, hlc, hcm, hm, hx, hcell⟩
  · rw [e] at h1
    simp only [Value.cells, List.cons.injEq, Value.slice.injEq, and_true] at h1
    omega
  · rw [e] at h1
    simp only [Value.cells, List.cons.injEq, Value.slice.injEq, and_true] at h1
    obtain ⟨-, hl, -⟩ := h1
    have hd := congrArg Prod.fst hx
    simp only at hd
    rw [hd] at hw
    simp only [DataW.weights, Tryd.underlying26, List.mem_cons, List.mem_append] at hw
    have h := hw _ (.inl rfl)
    rw [show Tryd.prog.bytesOf 5 = 1 by kernel_rfl] at h
    have := reachBytes_lt
    simp only [List.length_map, List.length_range] at h
    omega
theorem array4 {α : Type} {cs : Array α} (h : cs.size = 4) : ∃ a b c d, cs = #[a, b, c, d] := by
  match cs, h with
  | ⟨[a, b, c, d]⟩, _ => exact ⟨a, b, c, d, rfl⟩
theorem open_value {r : Reach} {b0 : Nat} {v : Value} {d : DataW H} {p : List MemPlace} (hv : Value.okWide Tryd.prog w r b0 25 v) (h : DataW.Trod enc Tryd.prog w 0 (fun _ => true) true 25 v d p) :
    ∃ (k : Int) (t : ByteArray) (A1 : Option Addr) (n1 c1 : Nat) (A2 : Option Addr) (n2 c2 : Nat) (x : JV), v = .agg #[.int .i64 k, .string t, .slice A1 n1 c1, .slice A2 n2 c2] ∧ VAt w (fun g => g < w.heap.size) (Rows.uptoBulk d) ⟨k, t, .slice A1 n1 c1, .slice A2 n2 c2⟩ x ∧ TM (Rows.uptoBulk d) x ∧
      ((∀ k ∈ d.weights Tryd.prog 25, k ≤ reachBytes) → RM (Rows.uptoBulk d) x) ∧ szJ (Rows.uptoBulk d) x ≤ Rows.uptoBulk d := by
  obtain ⟨cs, rfl, hsz⟩ := okWide_struct Tryd.underlying25 hv
  obtain ⟨c0, c1, c2, c3, rfl⟩ := array4 (hsz.trans (show Tryd.prog.cellsOf 25 = 4 by kernel_rfl))
  obtain ⟨fuel, hf⟩ := h
  obtain ⟨⟨pk, pt, pkv, plv⟩, x, e, hV, hT, hR, hZ⟩ := value_cells (Rows.uptoBulk d) hf (Nat.le_refl _)
  simp only [Value.cells, PV.cells, List.cons.injEq, and_true] at e
  obtain ⟨rfl, rfl, rfl, rfl⟩ := e
  obtain ⟨e, he⟩ := hV.pos
  obtain ⟨A1, n1, c1, A2, n2, c2, rfl, rfl⟩ := VAt.slices (he ▸ hV)
  exact ⟨pk, pt, A1, n1, c1, A2, n2, c2, x, rfl, hV, hT, hR, Nat.le_of_succ_le hZ⟩
end
end Go.Proofs.YtmjooghfghmngaaDoor
