/- The laws' own: a value of its own, however deep. -/
import Derived.Test.YtmjooghfghmngaaDoorJPrx
namespace Go.Proofs.YtmjooghfghmngaaDoor
open Go.RowKit Go.Shelf Go.Lib

/-- A list of values' cells with one of the values written anew. -/
theorem flat_set : ∀ (l : List PV) (i : Nat) (p : PV), i < l.length → ((((l.flatMap PV.cells).set (i * 4) (.int .i64 p.k)).set (i * 4 + 1) (.string p.t)).set (i * 4 + 2) p.kv).set (i * 4 + 3) p.lv = (l.set i p).flatMap PV.cells
  | [], _, _, h => absurd h (Nat.not_lt_zero _)
  | q :: l, 0, p, _ => by simp [PV.cells]
  | q :: l, i + 1, p, h => by
    have hq : q.cells.length = 4 := rfl
    rw [List.flatMap_cons, List.set_append_right _ _ (by omega), List.set_append_right _ _ (by omega), List.set_append_right _ _ (by omega), List.set_append_right _ _ (by omega), List.set_cons_succ, List.flatMap_cons,
      hq, show (i + 1) * 4 - 4 = i * 4 by omega, show (i + 1) * 4 + 1 - 4 = i * 4 + 1 by omega, show (i + 1) * 4 + 2 - 4 = i * 4 + 2 by omega, show (i + 1) * 4 + 3 - 4 = i * 4 + 3 by omega, flat_set l i p (by simpa using h)]
theorem append_none_any {w : World} {base : Nat} {t ty e : TypeId} {i : TypeInfo} {size : Nat} (ht : Tryd.prog.underlying t = some (.slice e)) (hi : Tryd.prog.info? e = some i) {v : Value} {n : Nat} {xs : List Value} (hown : w.ownsRow base e size v n xs) (c : Nat) :
    (Builtin.append_ #[t, t] ty #[v, .slice none 0 c]).run Tryd.prog w = .ok v w := by
  rcases hown.2 with ⟨rfl, rfl⟩ | ⟨g, cap, cur, rfl, _, _, hnc, _⟩
  · simp [Builtin.append_, run_underlying ht, sizeOf, typeInfo, hi, Builtin.lenOf, Builtin.firstCells]
  · simp [Builtin.append_, run_underlying ht, sizeOf, typeInfo, hi, Builtin.lenOf, Builtin.firstCells, hnc, storeCells]
/-- All of a slice, appended to an empty one of the call's own. -/
theorem append_new {w0 W : World} {T TS : TypeId} {z : Value} {n bytes : Nat} (hT : Tryd.prog.underlying TS = some (.slice T)) (hI : (Tryd.prog.info? T).map (fun i => (i.zero, i.size, i.bytes)) = some (some z, n, bytes)) (hz : z.cells.size = n) (hn : 0 < n)
    {v : Value} (hB : Below w0.heap.size w0 W) (hR : W.ownsRow w0.heap.size T n v 0 []) (A : Option Addr) (m c : Nat) (cs : List Value) (hl : cs.length = m * n) (hc : ∀ j u, cs[j]? = some u → ∃ ad, A = some ad ∧ W.cell? (ad.add j) = some u) (h1 : ∀ u ∈ cs, u.oneCell' = true)
    (hm : m * bytes ≤ 140737488355328) (hmm : m ≤ maxLen)
    {ops : Array Oper} {rest : List Oper} {o : Oper} {a : Act} {Q : Exit → Act → World → Prop} (hgd : o.guard = none) (s x : Operand)
    (ho : o.op = .call { callee := .builtin .append, args := #[s, x], argTypes := #[TS, TS] })
    (hs : a.eval s = v) (hx : a.eval x = .slice A m c)
    (h : ∀ v' w', Below w0.heap.size w0 w' → w'.ownsRow w0.heap.size T n v' m cs → W.grownBy w' v.ownBlock → (v'.ownBlock = v.ownBlock ∨ v'.ownBlock = some W.heap.size) → wpList Tryd.prog ops Q rest (a.put o.dst v') w') :
    wpList Tryd.prog ops Q (o :: rest) a W := by
  obtain ⟨i0, hi, hz0, hz1, hz2⟩ := info_parts hI
  have hA : A = none → m = 0 := fun e => by
    rcases Nat.eq_zero_or_pos m with hm0 | hm0
    · exact hm0
    · have hp : 0 < cs.length := by rw [hl]; exact Nat.mul_pos hm0 hn
      obtain ⟨ad, e2, _⟩ := hc 0 cs[0] (List.getElem?_eq_getElem hp)
      rw [e] at e2; cases e2
  cases A with
  | none =>
    obtain rfl := hA rfl
    obtain rfl : cs = [] := List.eq_nil_of_length_eq_zero (by simpa using hl)
    refine wpList_plain hgd fun K hK => ?_
    have hrun := append_none_any (ty := o.type) hT hi hR c
    unfold Oper.wp
    simp [execOp, ho, resolve, invoke, builtin, hs, hx, hrun, Result.andThen]
    exact hK _ _ (h v W hB hR ⟨rfl, rfl, rfl, Nat.le_refl _, fun _ _ _ => rfl⟩ (.inl rfl))
  | some ad =>
    refine wpList_append_own_at _ hgd s x TS ho w0.heap.size T i0 z n bytes hT hi hz0 hz1 hz2 hz hn v 0 [] hs hR ad m c cs hx hl (fun j u hu => ?_) h1 (by omega) (by rw [Nat.zero_add]; exact hm) hB.size ?_
    · obtain ⟨ad', e, hcell⟩ := hc j u hu
      cases e; exact hcell
    · intro v' w' hown hgrow _ hat
      rw [Nat.zero_add, List.nil_append] at hown
      exact h v' w' (hB.grown hgrow hB.size (fun k hk => (hR.lt k hk).1)) hown hgrow hat
theorem infoStr : (Tryd.prog.info? 9).map (fun i => (i.zero, i.size, i.bytes)) = some (some (.string ⟨#[]⟩), 1, 16) := by kernel_rfl
theorem infoVal : (Tryd.prog.info? 25).map (fun i => (i.zero, i.size, i.bytes)) = some (some (.agg #[.int .i64 0, .string ⟨#[]⟩, .slice none 0 0, .slice none 0 0]), 4, 72) := by kernel_rfl
/-- All lists in it are such that they can be copied. -/
def RM : Nat → JV → Prop
  | 0, _ => True
  | d + 1, .mk _ _ ks xs => ks.length * 16 ≤ 140737488355328 ∧ xs.length * 72 ≤ 140737488355328 ∧ ∀ x ∈ xs, RM d x
theorem rm_sm : ∀ (d : Nat) (x : JV), RM d x → SM 4611686018427387904 d x
  | 0, _, _ => trivial
  | d + 1, .mk k t ks xs, h => ⟨by have := h.1; omega, by have := h.2.1; omega, fun x hx => rm_sm d x (h.2.2 x hx)⟩
theorem sm_rm : ∀ (d : Nat) (x : JV), SM 1000000000000 d x → RM d x
  | 0, _, _ => trivial
  | d + 1, .mk k t ks xs, h => ⟨by have := h.1; omega, by have := h.2.1; omega, fun x hx => sm_rm d x (h.2.2 x hx)⟩
theorem parse_box {w : World} {A : Option Addr} {c : Nat} {s : List UInt8} {x : JV} (hx : parseN s = .ok x) (hE : Env w) (hB : Lib.BytesAt w A s.length s) (hA : ∀ ad, A = some ad → ad.block < w.heap.size) (hle : s.length ≤ c) (hcap : c ≤ 9223372036854775807) :
    Calls Tryd.prog 13 #[.slice A s.length c] w fun e w' => ∃ (k : Int) (t : ByteArray) (A1 : Option Addr) (n1 c1 : Nat) (A2 : Option Addr) (n2 c2 : Nat) (F : Nat → Prop), e = .returned (.tuple #[.agg #[.int .i64 k, .string t, .slice A1 n1 c1, .slice A2 n2 c2], .int .i64 0, .int .i64 0]) ∧
      Below w.heap.size w w' ∧ VAt w' F 33 ⟨k, t, .slice A1 n1 c1, .slice A2 n2 c2⟩ x ∧ ∀ g, F g → g < w'.heap.size :=
  (parse_ok hx hE hB hA hle hcap).mono fun e w' ⟨p, F, he, hb, hV, hF⟩ => by
    obtain ⟨pk, pt, pkv, plv⟩ := p
    obtain ⟨A1, n1, c1, A2, n2, c2, rfl, rfl⟩ := hV.slices
    exact ⟨pk, pt, A1, n1, c1, A2, n2, c2, F, he, hb, hV, fun g hg => (hF g hg).2⟩
theorem rowOwn_sl {w : World} {base : Nat} {e : TypeId} {size n : Nat} {v : Value} {xs : List Value} (h : w.ownsRow base e size v n xs) : ∃ A c, v = .slice A n c ∧ n ≤ c ∧ (∀ ad, A = some ad → ad = ⟨ad.block, 0, none⟩ ∧ base ≤ ad.block ∧ ad.block < w.heap.size) ∧ (0 < n → ∃ g, A = some ⟨g, 0, none⟩) := by
  rcases h.2 with ⟨rfl, rfl⟩ | ⟨g, cap, cur, rfl, hb, hg, hn, _⟩
  · exact ⟨none, 0, rfl, Nat.le_refl _, fun ad e => (by cases e), fun h => absurd h (Nat.lt_irrefl _)⟩
  · exact ⟨some ⟨g, 0, none⟩, cap, rfl, hn, fun ad e => (by cases e; exact ⟨rfl, hb, blk_lt hg⟩), fun _ => ⟨g, rfl⟩⟩
theorem flat_len4 : ∀ l : List PV, (l.flatMap PV.cells).length = l.length * 4
  | [] => rfl
  | p :: l => by rw [List.flatMap_cons, List.length_append, flat_len4 l, List.length_cons]; show 4 + _ = _; omega
/-- The parts of a list in memory, one by one. -/
theorem pick_parts {W : World} {F : Nat → Prop} {d : Nat} {A : Option Addr} {xs : List JV}
    (hx : ∀ (i : Nat) (x : JV), xs[i]? = some x → ∃ g o y, A = some ⟨g, o, none⟩ ∧ F g ∧ W.cell? ⟨g, o + i * 4, none⟩ = some (.int .i64 y.k) ∧ W.cell? ⟨g, o + i * 4 + 1, none⟩ = some (.string y.t) ∧ W.cell? ⟨g, o + i * 4 + 2, none⟩ = some y.kv ∧ W.cell? ⟨g, o + i * 4 + 3, none⟩ = some y.lv ∧ VAt W F d y x) :
    ∃ ps : List PV, ps.length = xs.length ∧ (∀ (i : Nat) (x : JV), xs[i]? = some x → ∃ p, ps[i]? = some p ∧ VAt W F d p x) ∧ (∀ u ∈ ps.flatMap PV.cells, u.oneCell' = true) ∧ ∀ (j : Nat) (u : Value), (ps.flatMap PV.cells)[j]? = some u → ∃ g o, A = some ⟨g, o, none⟩ ∧ F g ∧ W.cell? ⟨g, o + j, none⟩ = some u := by
  have each : ∀ i, i < xs.length → ∃ p : PV, ∃ g o, A = some ⟨g, o, none⟩ ∧ F g ∧ (∀ j u, p.cells[j]? = some u → W.cell? ⟨g, o + (i * 4 + j), none⟩ = some u) ∧ (∀ u ∈ p.cells, u.oneCell' = true) ∧ ∀ x, xs[i]? = some x → VAt W F d p x := fun i hi => by
    obtain ⟨g, o, y, hA, hg, a0, a1, a2, a3, hv⟩ := hx i xs[i] (List.getElem?_eq_getElem hi)
    obtain ⟨e, he⟩ := hv.pos
    obtain ⟨yk, yt, yv, yl⟩ := y
    obtain ⟨P1, pn, pc, P2, pm, pe, rfl, rfl⟩ := VAt.slices (he ▸ hv)
    refine ⟨⟨yk, yt, .slice P1 pn pc, .slice P2 pm pe⟩, g, o, hA, hg, fun j u hu => ?_, fun u hu => ?_, fun x hx' => ?_⟩
    · match j, hu with
      | 0, hu => cases hu; exact a0
      | 1, hu => cases hu; rw [← Nat.add_assoc]; exact a1
      | 2, hu => cases hu; rw [← Nat.add_assoc]; exact a2
      | 3, hu => cases hu; rw [← Nat.add_assoc]; exact a3
    · simp only [PV.cells, List.mem_cons, List.not_mem_nil, or_false] at hu
      rcases hu with rfl | rfl | rfl | rfl <;> rfl
    · rw [List.getElem?_eq_getElem hi] at hx'
      cases hx'
      exact hv
  haveI : Inhabited PV := ⟨⟨0, ⟨#[]⟩, .slice none 0 0, .slice none 0 0⟩⟩
  obtain ⟨q, hq⟩ := Go.Deep.choose_lt each
  have hget : ∀ i, i < xs.length → ((List.range xs.length).map q)[i]? = some (q i) := fun i hi => by simp [hi]
  refine ⟨(List.range xs.length).map q, by simp, fun i x hi => ?_, fun u hu => ?_, fun j u hu => ?_⟩
  · have hl := (List.getElem?_eq_some_iff.1 hi).1
    obtain ⟨g, o, h1, h2, h3, h4, h5⟩ := hq i hl
    exact ⟨q i, hget i hl, h5 x hi⟩
  · obtain ⟨p, hp, hu⟩ := List.mem_flatMap.1 hu
    obtain ⟨i, hi, rfl⟩ := List.mem_map.1 hp
    obtain ⟨g, o, h1, h2, h3, h4, h5⟩ := hq i (List.mem_range.1 hi)
    exact h4 u hu
  · have hj : j < xs.length * 4 := by
      have := (List.getElem?_eq_some_iff.1 hu).1
      rw [flat_len4] at this
      simpa using this
    have hk : j / 4 < xs.length := by omega
    obtain ⟨g, o, h1, h2, h3, h4, h5⟩ := hq (j / 4) hk
    have := flat_at _ (j / 4) (q (j / 4)) (hget _ hk) (j % 4) (Nat.mod_lt _ (by decide))
    rw [show j / 4 * 4 + j % 4 = j by omega, hu] at this
    have hc := h3 (j % 4) u this.symm
    rw [show j / 4 * 4 + j % 4 = j by omega] at hc
    exact ⟨g, o, h1, h2, hc⟩
/-- Of a value in memory own makes another one, all of it in new blocks. -/
def OwnAt (d : Nat) : Prop := ∀ (W : World) (F : Nat → Prop) (k : Int) (t : ByteArray) (A1 A2 : Option Addr) (n1 c1 n2 c2 : Nat) (x : JV), VAt W F d ⟨k, t, .slice A1 n1 c1, .slice A2 n2 c2⟩ x → (∀ g, F g → g < W.heap.size) → RM d x →
    Calls Tryd.prog 10 #[.agg #[.int .i64 k, .string t, .slice A1 n1 c1, .slice A2 n2 c2]] W fun e w' => ∃ B1 b1 B2 b2, e = .returned (.agg #[.int .i64 k, .string t, .slice B1 n1 b1, .slice B2 n2 b2]) ∧ Below W.heap.size W w' ∧
      VAt w' (fun g => W.heap.size ≤ g ∧ g < w'.heap.size) d ⟨k, t, .slice B1 n1 b1, .slice B2 n2 b2⟩ x
/-- How far the copy of a list has come: so many of its parts are own ones, made behind block B. -/
structure OwnL (w3 : World) (B d : Nat) (v : Value) (ps : List PV) (xs : List JV) (j : Nat) (wr : World) : Prop where
  below : Below w3.heap.size w3 wr
  size : B ≤ wr.heap.size
  parts : ∃ ys : List PV, wr.ownsRow w3.heap.size 25 4 v xs.length (ys.flatMap PV.cells) ∧ ys.length = xs.length ∧ (∀ i : Nat, j ≤ i → ys[i]? = ps[i]?) ∧ ∀ (i : Nat) (x : JV), i < j → xs[i]? = some x → ∃ p, ys[i]? = some p ∧ VAt wr (fun g => B ≤ g ∧ g < wr.heap.size) d p x
theorem OwnL.start {w3 w5 : World} {d : Nat} {v : Value} {ps : List PV} {xs : List JV} (hb : Below w3.heap.size w3 w5) (hr : w5.ownsRow w3.heap.size 25 4 v xs.length (ps.flatMap PV.cells)) (hl : ps.length = xs.length) : OwnL w3 w5.heap.size d v ps xs 0 w5 :=
  ⟨hb, Nat.le_refl _, ps, hr, hl, fun _ _ => rfl, fun _ _ hi => absurd hi (Nat.not_lt_zero _)⟩
theorem OwnL.step {w3 wr w2 : World} {B d g c j : Nat} {ps : List PV} {xs : List JV} {x : JV} {p : PV} (h : OwnL w3 B d (.slice (some ⟨g, 0, none⟩) xs.length c) ps xs j wr) (hx : xs[j]? = some x) (hgB : g < B) (hb : Below wr.heap.size wr w2)
    (hv : VAt w2 (fun q => wr.heap.size ≤ q ∧ q < w2.heap.size) d p x) : OwnL w3 B d (.slice (some ⟨g, 0, none⟩) xs.length c) ps xs (j + 1) (put4 w2 g (j * 4) p) := by
  obtain ⟨ys, hr, hl, ho, he⟩ := h.parts
  have hj := (List.getElem?_eq_some_iff.1 hx).1
  have hg := hr.lt g rfl
  have hr2 : w2.ownsRow w3.heap.size 25 4 (.slice (some ⟨g, 0, none⟩) xs.length c) xs.length (ys.flatMap PV.cells) := hr.kept (grew_of hb none) (.inr (by simp [Value.ownBlock]))
  have hrow := (((hr2.stored (j * 4) (.int .i64 p.k)).1.stored (j * 4 + 1) (.string p.t)).1.stored (j * 4 + 2) p.kv).1.stored (j * 4 + 3) p.lv
  rw [flat_set ys j p (by rw [hl]; exact hj)] at hrow
  have hs := hb.size
  have hBs := h.size
  refine ⟨put4_below (h.below.trans (hb.mono h.below.size)) hg.1 p, by rw [put4_size]; omega, ys.set j p, hrow.1, by simpa using hl, fun i hi => ?_, fun i y hi hy => ?_⟩
  · rw [List.getElem?_set_ne (by omega)]
    exact ho i (by omega)
  · rcases Nat.lt_or_ge i j with hlt | hge
    · obtain ⟨q, hq, hqv⟩ := he i y hlt hy
      refine ⟨q, by rw [List.getElem?_set_ne (by omega)]; exact hq, hqv.keep fun b hbb => ⟨⟨hbb.1, by rw [put4_size]; omega⟩, ?_⟩⟩
      rw [put4_far _ _ (by omega)]
      exact hb.block b hbb.2
    · obtain rfl : i = j := by omega
      rw [hx] at hy
      cases hy
      refine ⟨p, by rw [List.getElem?_set_self (by rw [hl]; exact hj)], hv.keep fun b hbb => ⟨⟨by omega, by rw [put4_size]; omega⟩, ?_⟩⟩
      rw [put4_far _ _ (by omega)]
/-- What stands in the list at a place that has not come up yet. -/
theorem OwnL.next {w3 wr W : World} {B d g c j : Nat} {F : Nat → Prop} {ps : List PV} {xs : List JV} {x : JV} (h : OwnL w3 B d (.slice (some ⟨g, 0, none⟩) xs.length c) ps xs j wr) (hx : xs[j]? = some x) (hp : ∀ (i : Nat) (x : JV), xs[i]? = some x → ∃ p, ps[i]? = some p ∧ VAt W F d p x) :
    ∃ k t P1 p1 q1 P2 p2 q2, VAt W F d ⟨k, t, .slice P1 p1 q1, .slice P2 p2 q2⟩ x ∧ (wr.cell? ⟨g, j * 4, none⟩ = some (.int .i64 k) ∧ wr.cell? ⟨g, j * 4 + 1, none⟩ = some (.string t) ∧ wr.cell? ⟨g, j * 4 + 2, none⟩ = some (.slice P1 p1 q1) ∧ wr.cell? ⟨g, j * 4 + 3, none⟩ = some (.slice P2 p2 q2)) ∧ ∀ i, wr.frozen? ⟨g, i, none⟩ = false := by
  obtain ⟨ys, hr, hl, ho, he⟩ := h.parts
  have hj := (List.getElem?_eq_some_iff.1 hx).1
  obtain ⟨⟨pk, pt, pv, pl⟩, h1, hv⟩ := hp j x hx
  obtain ⟨e, hee⟩ := hv.pos
  obtain ⟨P1, pn, pc, P2, pm, pe, rfl, rfl⟩ := VAt.slices (hee ▸ hv)
  have hq : ys[j]? = some ⟨pk, pt, .slice P1 pn pc, .slice P2 pm pe⟩ := (ho j (Nat.le_refl _)).trans h1
  have hc : ∀ i, i < 4 → wr.cell? ⟨g, j * 4 + i, none⟩ = (PV.cells ⟨pk, pt, .slice P1 pn pc, .slice P2 pm pe⟩)[i]? := fun i hi => by
    rw [hr.cellAt _ (by omega)]
    exact flat_at ys j _ hq i hi
  exact ⟨pk, pt, P1, pn, pc, P2, pm, pe, hv, ⟨hc 0 (by decide), hc 1 (by decide), hc 2 (by decide), hc 3 (by decide)⟩, fun i => hr.frozenAt i⟩
/-- All of it is copied. -/
theorem OwnL.done {w3 wr w' : World} {B d c : Nat} {A : Option Addr} {ps : List PV} {xs : List JV} (h : OwnL w3 B d (.slice A xs.length c) ps xs xs.length wr) {b0 : Nat} (h0 : b0 ≤ w3.heap.size) (h1 : b0 ≤ B) (hs : wr.heap.size ≤ w'.heap.size) (hk : ∀ b, w3.heap.size ≤ b → b < wr.heap.size → w'.heap[b]? = wr.heap[b]?) (hB : w3.heap.size ≤ B) :
    ∀ (i : Nat) (x : JV), xs[i]? = some x → ∃ g o y, A = some ⟨g, o, none⟩ ∧ (b0 ≤ g ∧ g < w'.heap.size) ∧ w'.cell? ⟨g, o + i * 4, none⟩ = some (.int .i64 y.k) ∧ w'.cell? ⟨g, o + i * 4 + 1, none⟩ = some (.string y.t) ∧ w'.cell? ⟨g, o + i * 4 + 2, none⟩ = some y.kv ∧ w'.cell? ⟨g, o + i * 4 + 3, none⟩ = some y.lv ∧ VAt w' (fun q => b0 ≤ q ∧ q < w'.heap.size) d y x := fun i x hx => by
  obtain ⟨ys, hr, hl, ho, he⟩ := h.parts
  have hi := (List.getElem?_eq_some_iff.1 hx).1
  obtain ⟨A', c', e, _, hA, hp⟩ := rowOwn_sl hr
  cases e
  obtain ⟨g, rfl⟩ := hp (by omega)
  obtain ⟨-, hg1, hg2⟩ := hA _ rfl
  obtain ⟨p, hq, hv⟩ := he i x hi hx
  have hc : ∀ j, j < 4 → w'.cell? ⟨g, i * 4 + j, none⟩ = p.cells[j]? := fun j hj => by
    rw [cell_keep (hk g hg1 hg2), hr.cellAt _ (by omega)]
    exact flat_at ys i p hq j hj
  refine ⟨g, 0, p, rfl, ⟨by simp only at hg1; omega, by simp only at hg2; omega⟩, ?_, ?_, ?_, ?_, hv.keep fun q hq => ⟨⟨by omega, by omega⟩, hk q (by omega) hq.2⟩⟩
  · rw [Nat.zero_add]; exact hc 0 (by decide)
  · rw [Nat.zero_add]; exact hc 1 (by decide)
  · rw [Nat.zero_add]; exact hc 2 (by decide)
  · rw [Nat.zero_add]; exact hc 3 (by decide)
theorem strs_row {w : World} {base : Nat} {v : Value} {ks : List ByteArray} (h : w.ownsRow base 9 1 v ks.length (ks.map Value.string)) : StrsAt w (fun g => base ≤ g ∧ g < w.heap.size) v ks := by
  obtain ⟨A, c, rfl, hc, hA, hp⟩ := rowOwn_sl h
  refine ⟨A, c, rfl, hc, fun i t ht => ?_⟩
  have hi := (List.getElem?_eq_some_iff.1 ht).1
  obtain ⟨g, rfl⟩ := hp (by omega)
  refine ⟨g, 0, rfl, (hA _ rfl).2, ?_⟩
  rw [Nat.zero_add, h.cellAt i (by omega), List.getElem?_map, ht]
  rfl
set_option maxHeartbeats 2000000 in
set_option maxRecDepth 100000 in
theorem own_step {d : Nat} (hI : OwnAt d) {W : World} {F : Nat → Prop} {k : Int} {t : ByteArray} {ks : List ByteArray} {xs : List JV} {A1 A2 : Option Addr} {c1 c2 : Nat}
    (hk1 : ∀ (i : Nat) (t : ByteArray), ks[i]? = some t → ∃ g o, A1 = some ⟨g, o, none⟩ ∧ F g ∧ W.cell? ⟨g, o + i, none⟩ = some (.string t))
    (hx1 : ∀ (i : Nat) (x : JV), xs[i]? = some x → ∃ g o y, A2 = some ⟨g, o, none⟩ ∧ F g ∧ W.cell? ⟨g, o + i * 4, none⟩ = some (.int .i64 y.k) ∧ W.cell? ⟨g, o + i * 4 + 1, none⟩ = some (.string y.t) ∧ W.cell? ⟨g, o + i * 4 + 2, none⟩ = some y.kv ∧ W.cell? ⟨g, o + i * 4 + 3, none⟩ = some y.lv ∧ VAt W F d y x)
    (hF : ∀ g, F g → g < W.heap.size) (hks : ks.length * 16 ≤ 140737488355328) (hxs : xs.length * 72 ≤ 140737488355328) (hrm : ∀ x ∈ xs, RM d x) :
    Calls Tryd.prog 10 #[.agg #[.int .i64 k, .string t, .slice A1 ks.length c1, .slice A2 xs.length c2]] W fun e w' => ∃ B1 b1 B2 b2, e = .returned (.agg #[.int .i64 k, .string t, .slice B1 ks.length b1, .slice B2 xs.length b2]) ∧ Below W.heap.size W w' ∧
      VAt w' (fun g => W.heap.size ≤ g ∧ g < w'.heap.size) (d + 1) ⟨k, t, .slice B1 ks.length b1, .slice B2 xs.length b2⟩ (.mk k t ks xs) := by
  obtain ⟨ps, hpl, hpv, hp1, hpc⟩ := pick_parts hx1
  obtain ⟨n, hn⟩ : ∃ n, n = W.heap.size := ⟨_, rfl⟩
  have IH := Lib.hid hI
  have HPV := Lib.hid hpv
  have HPL := Lib.hid hpl
  have HP1 := Lib.hid hp1
  have HF := Lib.hid hF
  have HRM := Lib.hid hrm
  have HKC : Hid (∀ w', Below W.heap.size W w' → ∀ j u, (ks.map Value.string)[j]? = some u → ∃ ad, A1 = some ad ∧ w'.cell? (ad.add j) = some u) := fun w' hb j u hu => by
    rw [List.getElem?_map, Option.map_eq_some_iff] at hu
    obtain ⟨t', ht, rfl⟩ := hu
    obtain ⟨g, o, hA, hg, hc⟩ := hk1 j t' ht
    exact ⟨_, hA, by rw [show (⟨g, o, none⟩ : Addr).add j = ⟨g, o + j, none⟩ by simp [Addr.add]]; exact (cell_keep (hb.block g (hF g hg)) _).trans hc⟩
  have HXC : Hid (∀ w', Below W.heap.size W w' → ∀ j u, (ps.flatMap PV.cells)[j]? = some u → ∃ ad, A2 = some ad ∧ w'.cell? (ad.add j) = some u) := fun w' hb j u hu => by
    obtain ⟨g, o, hA, hg, hc⟩ := hpc j u hu
    exact ⟨_, hA, by rw [show (⟨g, o, none⟩ : Addr).add j = ⟨g, o + j, none⟩ by simp [Addr.add]]; exact (cell_keep (hb.block g (hF g hg)) _).trans hc⟩
  clear hI hpv hpl hp1 hpc hk1 hx1 hF hrm
  go_enter Tryd.func10, Tryd.ntmps10
  go_upto_region 1 with (fail)
  have B1' : Below W.heap.size W ((W.alloc (Obj.cells #[.int .i64 k, .string t, .slice A1 ks.length c1, .slice A2 xs.length c2] 25)).alloc (Obj.cells #[.int .i64 0, .string ⟨#[]⟩, .slice none 0 0, .slice none 0 0] 25)) := by go_grown
  have v0 := heap_alloc_new W (Obj.cells #[.int .i64 k, .string t, .slice A1 ks.length c1, .slice A2 xs.length c2] 25)
  have v1 := heap_alloc_new (W.alloc (Obj.cells #[.int .i64 k, .string t, .slice A1 ks.length c1, .slice A2 xs.length c2] 25)) (Obj.cells #[.int .i64 0, .string ⟨#[]⟩, .slice none 0 0, .slice none 0 0] 25)
  simp only [World.size_alloc] at v1
  have v0' := blk_alloc v0 (Obj.cells #[.int .i64 0, .string ⟨#[]⟩, .slice none 0 0, .slice none 0 0] 25)
  clear v0
  generalize ((W.alloc (Obj.cells #[.int .i64 k, .string t, .slice A1 ks.length c1, .slice A2 xs.length c2] 25)).alloc (Obj.cells #[.int .i64 0, .string ⟨#[]⟩, .slice none 0 0, .slice none 0 0] 25)) = W1 at *
  rw [← hn] at v0' v1 ⊢
  have q2 : ∀ cs t', (W1.alloc (Obj.cells cs t')).cell? ⟨n, 2, none⟩ = some (.slice A1 ks.length c1) := fun cs t' => blk_cell (blk_alloc v0' _) 2
  have HB1 := Lib.hid B1'
  have HV0 := Lib.hid v0'
  have HV1 := Lib.hid v1
  have HN := Lib.hid hn
  have hn1 : n + 1 < W1.heap.size := blk_lt v1
  have HN1 := Lib.hid hn1
  have hbn : ∀ cs t', Below W1.heap.size W1 (W1.alloc (Obj.cells cs t')) := fun cs t' => (Below.refl _ W1).alloc (Nat.le_refl _) _
  have HBN := Lib.hid hbn
  clear B1' v0' v1 hn hn1 hbn
  go_upto_region 2 with (at_builtin; go_must (refine append_new (w0 := W1) (z := .string ⟨#[]⟩) Tryd.underlying22 infoStr rfl (by decide) (HBN.out _ _) (World.ownsRow_made W1 #[] 0 (Nat.le_refl _) (by unfold maxLen; omega) rfl) A1 ks.length c1 (ks.map Value.string) (by simp) (HKC.out _ (HB1.out.trans ((HBN.out _ _).mono HB1.out.size))) (fun u hu => by obtain ⟨_, _, rfl⟩ := List.mem_map.1 hu; rfl) hks (by unfold maxLen; omega) rfl _ _ rfl rfl rfl ?_; rintro v' w2 hb2 hr2 - -; obtain ⟨B1, b1, rfl, hB1c, hB1a, -⟩ := rowOwn_sl hr2; have hx2 := (hb2.block n (by have := HN1.out; omega)).trans HV0.out; have q4 := blk_cell hx2 2; have f4 := blk_frozen hx2 2; simp only [List.getElem?_toArray, List.getElem?_cons_zero, List.getElem?_cons_succ] at q4; have HB2 := Lib.hid hb2; have HR2 := Lib.hid hr2; have HX2 := Lib.hid hx2; clear hb2 hr2 hx2 hB1c hB1a))
  have v3 := blk_set HX2.out 2 (.slice B1 ks.length b1)
  have hb3 : Below W.heap.size W (w2.setCell ⟨n, 2, none⟩ (.slice B1 ks.length b1)) := (HB1.out.trans (HB2.out.mono HB1.out.size)).setCell (p := ⟨n, 2, none⟩) (by rw [HN.out]; exact Nat.le_refl _) _
  have v4 := (Below.heap_setCell w2 ⟨n, 2, none⟩ (.slice B1 ks.length b1) (n + 1) (by show n + 1 ≠ n; omega)).trans ((HB2.out.block (n + 1) HN1.out).trans HV1.out)
  have hr3 := HR2.out.kept (grew_set (World.grownBy.refl w2 (some n)) 2 (.slice B1 ks.length b1)) (by
    cases e : (Value.slice B1 ks.length b1).ownBlock with
    | none => exact .inl rfl
    | some g => have := HR2.out.lt g e; have := HN1.out; exact .inr (by simp; omega))
  generalize w2.setCell ⟨n, 2, none⟩ (.slice B1 ks.length b1) = w3 at *
  have q5 : ∀ cs t', (w3.alloc (Obj.cells cs t')).cell? ⟨n, 3, none⟩ = some (.slice A2 xs.length c2) := fun cs t' => blk_cell (blk_alloc v3 _) 3
  have HB3 := Lib.hid hb3
  have HV3 := Lib.hid v3
  have HV4 := Lib.hid v4
  have HR3 := Lib.hid hr3
  have hbn : ∀ cs t', Below w3.heap.size w3 (w3.alloc (Obj.cells cs t')) := fun cs t' => (Below.refl _ w3).alloc (Nat.le_refl _) _
  have HBM := Lib.hid hbn
  clear hb3 v3 v4 hr3 hbn HR2 HX2 HB2 q2 q4 f4
  go_wp2_with (at_builtin; go_must (refine append_new (w0 := w3) (z := .agg #[.int .i64 0, .string ⟨#[]⟩, .slice none 0 0, .slice none 0 0]) Tryd.underlying23 infoVal rfl (by decide) (HBM.out _ _) (World.ownsRow_made w3 #[] 0 (Nat.le_refl _) (by unfold maxLen; omega) rfl) A2 xs.length c2 (ps.flatMap PV.cells) (by rw [flat_len4, HPL.out]) (HXC.out _ (HB3.out.trans ((HBM.out _ _).mono HB3.out.size))) HP1.out hxs (by unfold maxLen; omega) rfl _ _ rfl rfl rfl ?_; rintro v' w5 hb5 hr5 - -; obtain ⟨B2, b2, rfl, hB2c, hB2a, hB2p⟩ := rowOwn_sl hr5; have HA2 := Lib.hid hB2a; have HP2 := Lib.hid hB2p; have HL := Lib.hid (OwnL.start (d := d) hb5 hr5 HPL.out); have HS5 := Lib.hid hb5.size; clear hb5 hr5 hB2c hB2a hB2p))
  clear q5
  go_loopw [4] (fun i wr => ∃ j : Nat, i = .int .i64 j ∧ j ≤ xs.length ∧ Hid (OwnL w3 w5.heap.size d (.slice B2 xs.length b2) ps xs j wr)) (fun i _ => xs.length - (RowKit.intOf i).toNat)
  case atStart => exact ⟨0, rfl, Nat.zero_le _, HL.out⟩
  case round =>
    obtain ⟨j, rfl, hj, HO⟩ := hrel
    by_cases hlt : j < xs.length
    · have hl : (j : Int) < (xs.length : Int) := by omega
      have hl0 : (0 : Int) ≤ (j : Int) := by omega
      obtain ⟨g, rfl⟩ := HP2.out (by omega)
      obtain ⟨x, hx⟩ : ∃ x, xs[j]? = some x := ⟨xs[j], List.getElem?_eq_getElem hlt⟩
      obtain ⟨k1, t1, P1, p1, q1, P2, p2, q2, hv, ⟨a0, a1, a2, a3⟩, -⟩ := HO.out.next hx HPV.out
      have hgB : g < w5.heap.size := (HA2.out _ rfl).2.2
      have hbw : Below W.heap.size W wr := HB3.out.trans (HO.out.below.mono HB3.out.size)
      have HI := Lib.hid (IH.out wr F k1 t1 P1 P2 p1 q1 p2 q2 x (hv.keep fun q hq => ⟨hq, hbw.block q (HF.out q hq)⟩) (fun q hq => Nat.lt_of_lt_of_le (HF.out q hq) hbw.size) (HRM.out x (List.mem_of_getElem? hx)))
      have HX := Lib.hid hx
      have HGB := Lib.hid hgB
      have HGW := Lib.hid (Nat.lt_of_lt_of_le hgB HO.out.size)
      have HFZ : Hid (∀ w', Below wr.heap.size wr w' → ∀ i, w'.frozen? ⟨g, i, none⟩ = false) := fun w' hb i => by
        obtain ⟨ys, hr, hl', -⟩ := HO.out.parts
        exact (hr.kept (grew_of hb none) (.inr (by simp [Value.ownBlock]))).frozenAt i
      clear hv hx hgB hbw
      go_wp2_with (go_at_call 10; go_must ((with_reducible refine HI.out.mono ?_); rintro e' w6 ⟨C1, d1, C2, d2, rfl, hb6, hv6⟩; have hg6 := hb6.block g HGW.out; have g0 := (cell_keep hg6 (j * 4)).trans a0; have g1 := (cell_keep hg6 (j * 4 + 1)).trans a1; have g2 := (cell_keep hg6 (j * 4 + 2)).trans a2; have g3 := (cell_keep hg6 (j * 4 + 3)).trans a3; have f0 := HFZ.out w6 hb6 (j * 4); have f1 := HFZ.out w6 hb6 (j * 4 + 1); have f2 := HFZ.out w6 hb6 (j * 4 + 2); have f3 := HFZ.out w6 hb6 (j * 4 + 3); have HST := Lib.hid (HO.out.step HX.out HGB.out hb6 hv6); clear hb6 hv6 hg6))
      exact ⟨⟨j + 1, by go_num, by omega, HST.out⟩, by simp [RowKit.intOf]; omega⟩
    · have hl : ¬ (j : Int) < (xs.length : Int) := by omega
      obtain rfl : j = xs.length := by omega
      have hn0 : n + 1 < w3.heap.size := blk_lt HV4.out
      have x0 := (HO.out.below.block n (by omega)).trans HV3.out
      have x1 := (HO.out.below.block (n + 1) hn0).trans HV4.out
      have f3 := blk_frozen x0 3
      have p0 := blk_cell x0 0
      have p1 := blk_cell x0 1
      have p2 := blk_cell x0 2
      have p3 := blk_cell x0 3
      have r0 := blk_cell x1 0
      have r1 := blk_cell x1 1
      have r2 := blk_cell x1 2
      have r3 := blk_cell x1 3
      have z0 := blk_frozen x1 0
      have z1 := blk_frozen x1 1
      have z2 := blk_frozen x1 2
      have z3 := blk_frozen x1 3
      simp only [List.getElem?_toArray, List.getElem?_cons_zero, List.getElem?_cons_succ, List.setIfInBounds_toArray, List.set_cons_zero, List.set_cons_succ] at p0 p1 p2 p3 r0 r1 r2 r3
      have HX0 := Lib.hid x0
      have HX1 := Lib.hid x1
      clear x0 x1 hn0
      go_wp2_with fail
      have hbw : Below W.heap.size W wr := HB3.out.trans (HO.out.below.mono HB3.out.size)
      have hn0 := HN.out
      have hbl : Below W.heap.size W (((((wr.setCell ⟨n, 3, none⟩ (.slice B2 xs.length b2)).setCell ⟨n + 1, 0, none⟩ (.int .i64 k)).setCell ⟨n + 1, 1, none⟩ (.string t)).setCell ⟨n + 1, 2, none⟩ (.slice B1 ks.length b1)).setCell ⟨n + 1, 3, none⟩ (.slice B2 xs.length b2)) := ((((hbw.setCell (p := ⟨n, 3, none⟩) (by show W.heap.size ≤ n; omega) _).setCell (p := ⟨n + 1, 0, none⟩) (by show W.heap.size ≤ n + 1; omega) _).setCell (p := ⟨n + 1, 1, none⟩) (by show W.heap.size ≤ n + 1; omega) _).setCell (p := ⟨n + 1, 2, none⟩) (by show W.heap.size ≤ n + 1; omega) _).setCell (p := ⟨n + 1, 3, none⟩) (by show W.heap.size ≤ n + 1; omega) _
      have ff : ∀ b, b ≠ n → b ≠ n + 1 → (((((wr.setCell ⟨n, 3, none⟩ (.slice B2 xs.length b2)).setCell ⟨n + 1, 0, none⟩ (.int .i64 k)).setCell ⟨n + 1, 1, none⟩ (.string t)).setCell ⟨n + 1, 2, none⟩ (.slice B1 ks.length b1)).setCell ⟨n + 1, 3, none⟩ (.slice B2 xs.length b2)).heap[b]? = wr.heap[b]? := fun b h1 h2 =>
        (Below.heap_setCell _ _ _ b h2).trans ((Below.heap_setCell _ _ _ b h2).trans ((Below.heap_setCell _ _ _ b h2).trans ((Below.heap_setCell _ _ _ b h2).trans (Below.heap_setCell _ _ _ b h1))))
      have hsz : (((((wr.setCell ⟨n, 3, none⟩ (.slice B2 xs.length b2)).setCell ⟨n + 1, 0, none⟩ (.int .i64 k)).setCell ⟨n + 1, 1, none⟩ (.string t)).setCell ⟨n + 1, 2, none⟩ (.slice B1 ks.length b1)).setCell ⟨n + 1, 3, none⟩ (.slice B2 xs.length b2)).heap.size = wr.heap.size := by simp [World.setCell]
      have hfin := blk_set (blk_set (blk_set (blk_set ((Below.heap_setCell wr ⟨n, 3, none⟩ (.slice B2 xs.length b2) (n + 1) (by show n + 1 ≠ n; omega)).trans HX1.out) 0 (.int .i64 k)) 1 (.string t)) 2 (.slice B1 ks.length b1)) 3 (.slice B2 xs.length b2)
      simp only [List.setIfInBounds_toArray, List.set_cons_zero, List.set_cons_succ] at hfin
      have hw1 : n + 1 < w3.heap.size := blk_lt HV4.out
      have hN1 := HN1.out
      have h13 : ∀ g, W1.heap.size ≤ g → g ≠ n ∧ g ≠ n + 1 := fun g hg => by omega
      have h35 := HS5.out
      have h3r := HO.out.below.size
      generalize (((((wr.setCell ⟨n, 3, none⟩ (.slice B2 xs.length b2)).setCell ⟨n + 1, 0, none⟩ (.int .i64 k)).setCell ⟨n + 1, 1, none⟩ (.string t)).setCell ⟨n + 1, 2, none⟩ (.slice B1 ks.length b1)).setCell ⟨n + 1, 3, none⟩ (.slice B2 xs.length b2)) = w9 at *
      refine bodyPost_ret (v := PV.val ⟨k, t, .slice B1 ks.length b1, .slice B2 xs.length b2⟩) ?_ rfl ⟨B1, b1, B2, b2, rfl, hbl, rfl, rfl, ?_, B2, b2, rfl, ?_, ?_⟩
      · exact results_cell_row rfl _ _ (n + 1) 25 #[.int .i64 k, .string t, .slice B1 ks.length b1, .slice B2 xs.length b2] (0, 0) _ rfl hfin Tryd.underlying25 rfl infoS4
      · refine (strs_row HR3.out).keep fun g hg => ⟨⟨by omega, by omega⟩, ?_⟩
        rw [ff g (by omega) (by omega)]
        exact HO.out.below.block g hg.2
      · obtain ⟨ys, hr, -⟩ := HO.out.parts
        obtain ⟨A', c', e, hc, -⟩ := rowOwn_sl hr
        cases e
        exact hc
      · exact HO.out.done (by omega) (by omega) (by omega) (fun b h1 h2 => ff b (by omega) (by omega)) h35
theorem own_any : ∀ d : Nat, OwnAt d
  | 0 => fun _ _ _ _ _ _ _ _ _ _ _ h => h.elim
  | d + 1 => fun W F k t A1 A2 n1 c1 n2 c2 x hV hF hR => by
    have IH := own_any d
    obtain ⟨k', t', ks, xs⟩ := x
    obtain ⟨e1, e2, ⟨B1, b1, e3, hc1, hk1⟩, B2, b2, e4, hc2, hx1⟩ := hV
    simp only [Value.slice.injEq] at e1 e2 e3 e4
    obtain ⟨rfl, rfl, rfl⟩ := e3
    obtain ⟨rfl, rfl, rfl⟩ := e4
    subst e1 e2
    exact own_step IH hk1 hx1 hF hR.1 hR.2.1 hR.2.2
end Go.Proofs.YtmjooghfghmngaaDoor
