/- Layer sector: how a list of acts comes in, and what the seat's laws share. -/
import Derived.Test.YtngfffbnofejmaaRows
import Derived.Test.YtngfffbnofejmaaSAct
import Derived.Deep.DeepHandedRow
import Derived.Lib.SmallJoins
import Derived.Stop.LaidErr
import Derived.ChangeStays
import Derived.SizedLaws
import Derived.ChangeBook
import Derived.Deep.Slices
set_option maxRecDepth 100000
namespace Go.Proofs.Ytngfffbnofejmaa
open Go.Joins Go.ChangeShapes Go.WideShapes Go.ChangeAt Go.RowKit

theorem own : ownKnob Try.prog.godebug = none := by kernel_rfl
/-- A list of acts in memory. -/
def ActsAt (w : World) (A : Option Addr) (l : List AV) : Prop := 0 < l.length → ∃ b o, A = some ⟨b, o, none⟩ ∧ b < w.heap.size ∧ ∀ (i : Nat) (h : i < l.length), (l[i]).ok ∧
  w.cell? ⟨b, o + i * 5, none⟩ = some (.int .i64 (l[i]).kind) ∧ w.cell? ⟨b, o + i * 5 + 1, none⟩ = some (.int .i64 (l[i]).pos) ∧ w.cell? ⟨b, o + i * 5 + 2, none⟩ = some (.int .u8 ((l[i]).fill.toNat : Nat)) ∧
  w.cell? ⟨b, o + i * 5 + 3, none⟩ = some (.bool (l[i]).odd) ∧ w.cell? ⟨b, o + i * 5 + 4, none⟩ = some (.int .u64 ((l[i]).mask : Nat))
theorem ActsAt.on {w w' : World} {A : Option Addr} {l : List AV} (h : ActsAt w A l) (hb : Below w.heap.size w w') : ActsAt w' A l := fun h0 => by
  obtain ⟨b, o, e, hlt, hc⟩ := h h0
  refine ⟨b, o, e, Nat.lt_of_lt_of_le hlt hb.size, fun i hi => ?_⟩
  obtain ⟨h0, h1, h2, h3, h4, h5⟩ := hc i hi
  have k := fun j => hb.cell (p := ⟨b, j, none⟩) hlt
  exact ⟨h0, (k _).trans h1, (k _).trans h2, (k _).trans h3, (k _).trans h4, (k _).trans h5⟩
theorem cell_spot {w : World} {b o : Nat} {sp : Option Nat} {v : Value} (h : w.cell? ⟨b, o, sp⟩ = some v) : sp = none := by
  cases sp with
  | none => rfl
  | some n =>
    exfalso
    unfold World.cell? at h
    simp only at h
    split at h <;> simp_all
theorem list5 {α : Type} {cs : List α} (h : cs.length = 5) : ∃ a b c d e, cs = [a, b, c, d, e] := by
  match cs, h with
  | [a, b, c, d, e], _ => exact ⟨a, b, c, d, e, rfl⟩
section
variable {H : Type} {enc : TypeId × Value → H} {w : World} {base : Nat} {spare : Nat → Bool} {held : Bool}
theorem trod_struct5 {P : Program} {t : TypeId} {f0 f1 f2 f3 f4 : Field} {fuel : Nat} {cs : List Value} {x : DataW H × List MemPlace} (ht : P.underlying t = some (.struct #[f0, f1, f2, f3, f4])) (h : DataW.trod enc P w base spare held fuel t cs = some x) :
    ∃ y0 y1 y2 y3 y4 n, cs.length = P.cellsOf t ∧ DataW.trod enc P w base spare held n f0.type ((cs.drop f0.offset).take (P.cellsOf f0.type)) = some y0 ∧
      DataW.trod enc P w base spare held n f1.type ((cs.drop f1.offset).take (P.cellsOf f1.type)) = some y1 ∧ DataW.trod enc P w base spare held n f2.type ((cs.drop f2.offset).take (P.cellsOf f2.type)) = some y2 ∧
      DataW.trod enc P w base spare held n f3.type ((cs.drop f3.offset).take (P.cellsOf f3.type)) = some y3 ∧ DataW.trod enc P w base spare held n f4.type ((cs.drop f4.offset).take (P.cellsOf f4.type)) = some y4 := by
  obtain ⟨xs, n, _, rfl, hl, hlen, hf⟩ := DataW.trod_struct ht h
  obtain ⟨y0, y1, y2, y3, y4, rfl⟩ := list5 hlen
  exact ⟨y0, y1, y2, y3, y4, n, hl, hf 0 f0 rfl, hf 1 f1 rfl, hf 2 f2 rfl, hf 3 f3 rfl, hf 4 f4 rfl⟩
/-- An act's cells. -/
theorem act_cells {fuel : Nat} {cs : List Value} {x : DataW H × List MemPlace} (hf : DataW.trod enc Try.prog w 0 (fun _ => true) true fuel 34 cs = some x) :
    ∃ a : AV, cs = [.int .i64 a.kind, .int .i64 a.pos, .int .u8 (a.fill.toNat : Nat), .bool a.odd, .int .u64 (a.mask : Nat)] ∧ a.ok := by
  obtain ⟨y0, y1, y2, y3, y4, k, hl, g0, g1, g2, g3, g4⟩ := trod_struct5 Try.underlying34 hf
  obtain ⟨v0, v1, v2, v3, v4, rfl⟩ := list5 (hl.trans (show Try.prog.cellsOf 34 = 5 by kernel_rfl))
  simp only [show Try.prog.cellsOf 3 = 1 by kernel_rfl, show Try.prog.cellsOf 5 = 1 by kernel_rfl, show Try.prog.cellsOf 4 = 1 by kernel_rfl, show Try.prog.cellsOf 32 = 1 by kernel_rfl, List.drop_zero, List.take_succ_cons, List.take_zero, List.drop_succ_cons] at g0 g1 g2 g3 g4
  obtain ⟨n0, e0, -, w0⟩ := DataW.trod_int Try.underlying3 g0
  obtain ⟨n1, e1, -, w1⟩ := DataW.trod_int Try.underlying3 g1
  obtain ⟨n2, e2, -, w2⟩ := DataW.trod_int Try.underlying5 g2
  obtain ⟨n3, e3, -⟩ := DataW.trod_bool Try.underlying4 g3
  obtain ⟨n4, e4, -, w4⟩ := DataW.trod_int Try.underlying32 g4
  simp only [List.cons.injEq, and_true] at e0 e1 e2 e3 e4
  subst e0; subst e1; subst e2; subst e3; subst e4
  have b1 := bounds_i64 w1
  have b2 := bounds_u8 w2
  have b4 := bounds_u64 w4
  refine ⟨⟨n0, n1, UInt8.ofNat n2.toNat, n3, n4.toNat⟩, ?_, b1, by show n4.toNat < _; omega⟩
  have h2 : (((UInt8.ofNat n2.toNat).toNat : Nat) : Int) = n2 := by rw [UInt8.toNat_ofNat', Nat.mod_eq_of_lt (by omega)]; omega
  have h4 : ((n4.toNat : Nat) : Int) = n4 := by omega
  rw [h2, h4]
theorem open_acts {r : Reach} {b0 : Nat} {v : Value} {d : DataW H} {p : List MemPlace} (hv : Value.okWide Try.prog w r b0 22 v) (h : DataW.Trod enc Try.prog w 0 (fun _ => true) true 22 v d p) :
    ∃ (A : Option Addr) (l : List AV) (cap : Nat), v = .slice A l.length cap ∧ ActsAt w A l ∧ l.length ≤ 9223372036854775807 := by
  obtain ⟨a0, l0, c0, rfl⟩ := okWide_slice Try.underlying22 hv
  obtain ⟨fuel, hf⟩ := h
  rcases Go.Deep.open_slice Try.underlying22 hf with ⟨h1, h2⟩ | ⟨a, len, cap, m, n, D, Pl, h1, hba, hlc, hcm, hm, hx, hcell⟩
  · simp only [Value.cells, List.cons.injEq, Value.slice.injEq, and_true] at h1
    obtain ⟨rfl, rfl, rfl⟩ := h1
    exact ⟨none, [], 0, rfl, fun hp => absurd hp (by simp), by simp⟩
  · simp only [Value.cells, List.cons.injEq, Value.slice.injEq, and_true] at h1
    obtain ⟨rfl, rfl, rfl⟩ := h1
    simp only [if_true] at hm
    subst hm
    rw [show Try.prog.cellsOf 34 = 5 by kernel_rfl] at hcell
    have each : ∀ i, i < l0 → ∃ q : AV, q.ok ∧ w.cell? (a.add (i * 5)) = some (.int .i64 q.kind) ∧ w.cell? (a.add (i * 5 + 1)) = some (.int .i64 q.pos) ∧ w.cell? (a.add (i * 5 + 2)) = some (.int .u8 (q.fill.toNat : Nat)) ∧
        w.cell? (a.add (i * 5 + 3)) = some (.bool q.odd) ∧ w.cell? (a.add (i * 5 + 4)) = some (.int .u64 (q.mask : Nat)) := fun i hi => by
      obtain ⟨cs', h1, h2⟩ := hcell i (by omega)
      obtain ⟨_, hlen, hcc⟩ := World.cells?_some h1
      obtain ⟨q, rfl, h3⟩ := act_cells h2
      have k : ∀ j u, j < 5 → ([.int .i64 q.kind, .int .i64 q.pos, .int .u8 (q.fill.toNat : Nat), .bool q.odd, .int .u64 (q.mask : Nat)] : List Value)[j]? = some u → w.cell? (a.add (i * 5 + j)) = some u := fun j u hj hu => by
        have := hcc j hj
        rw [Go.Deep.add_add] at this
        exact this.trans hu
      exact ⟨q, h3, k 0 _ (by decide) rfl, k 1 _ (by decide) rfl, k 2 _ (by decide) rfl, k 3 _ (by decide) rfl, k 4 _ (by decide) rfl⟩
    haveI : Inhabited AV := ⟨⟨0, 0, 0, false, 0⟩⟩
    obtain ⟨q, hq⟩ := Go.Deep.choose_lt each
    refine ⟨some a, (List.range l0).map q, m, by simp, fun hp => ?_, by simp; unfold maxLen at hcm; omega⟩
    simp only [List.length_map, List.length_range] at hp ⊢
    obtain ⟨b, o, sp⟩ := a
    have hsp : sp = none := by
      have h0 := (hq 0 hp).2.1
      rw [Nat.zero_mul] at h0
      simp only [Addr.add] at h0
      exact cell_spot h0
    subst hsp
    refine ⟨b, o, rfl, World.block_lt_of_cell? w ⟨b, o + 0 * 5, none⟩ (by have h0 := (hq 0 hp).2.1; rwa [show (⟨b, o, none⟩ : Addr).add (0 * 5) = ⟨b, o + 0 * 5, none⟩ by simp [Addr.add]] at h0), fun i hi => ?_⟩
    have hi' : i < l0 := hi
    rw [List.getElem_map, List.getElem_range]
    obtain ⟨k, k0, k1, k2, k3, k4⟩ := hq i hi'
    have ea : ∀ j, (⟨b, o, none⟩ : Addr).add j = ⟨b, o + j, none⟩ := fun j => by simp [Addr.add]
    rw [ea] at k0 k1 k2 k3 k4
    exact ⟨k, k0, k1, k2, k3, k4⟩
/-- A list of Bools in memory. -/
def BoolsAt (w : World) (A : Option Addr) (l : List Bool) : Prop := 0 < l.length → ∃ b o, A = some ⟨b, o, none⟩ ∧ b < w.heap.size ∧ ∀ (i : Nat) (h : i < l.length), w.cell? ⟨b, o + i, none⟩ = some (.bool l[i])
theorem open_bools {r : Reach} {b0 : Nat} {v : Value} {d : DataW H} {p : List MemPlace} (hv : Value.okWide Try.prog w r b0 58 v) (h : DataW.Trod enc Try.prog w 0 (fun _ => true) true 58 v d p) :
    ∃ (A : Option Addr) (l : List Bool) (cap : Nat), v = .slice A l.length cap ∧ BoolsAt w A l ∧ l.length ≤ 9223372036854775807 := by
  obtain ⟨a0, l0, c0, rfl⟩ := okWide_slice Try.underlying58 hv
  obtain ⟨fuel, hf⟩ := h
  rcases Go.Deep.open_slice1 Try.underlying58 (by kernel_rfl) hf with ⟨h1, h2⟩ | ⟨a, len, cap, m, n, V, D, Pl, h1, hba, hlc, hcm, hm, hx, hcell⟩
  · simp only [Value.cells, List.cons.injEq, Value.slice.injEq, and_true] at h1
    obtain ⟨rfl, rfl, rfl⟩ := h1
    exact ⟨none, [], 0, rfl, fun hp => absurd hp (by simp), by simp⟩
  · simp only [Value.cells, List.cons.injEq, Value.slice.injEq, and_true] at h1
    obtain ⟨rfl, rfl, rfl⟩ := h1
    simp only [if_true] at hm
    subst hm
    have each : ∀ i, i < l0 → ∃ q : Bool, w.cell? (a.add i) = some (.bool q) := fun i hi => by
      obtain ⟨hc, ht⟩ := hcell i (by omega)
      obtain ⟨x, e0, -⟩ := DataW.trod_bool Try.underlying4 ht
      have e1 : V i = .bool x := by simpa using e0
      exact ⟨x, by rw [hc, e1]⟩
    obtain ⟨q, hq⟩ := Go.Deep.choose_lt each
    refine ⟨some a, (List.range l0).map q, m, by simp, fun hp => ?_, by simp; unfold maxLen at hcm; omega⟩
    simp only [List.length_map, List.length_range] at hp ⊢
    obtain ⟨b, o, sp⟩ := a
    have hsp : sp = none := by
      have h0 := hq 0 hp
      simp only [Addr.add] at h0
      exact cell_spot h0
    subst hsp
    have ea : ∀ j, (⟨b, o, none⟩ : Addr).add j = ⟨b, o + j, none⟩ := fun j => by simp [Addr.add]
    refine ⟨b, o, rfl, World.block_lt_of_cell? w ⟨b, o + 0, none⟩ (by have h0 := hq 0 hp; rwa [ea] at h0), fun i hi => ?_⟩
    have hi' : i < l0 := hi
    rw [List.getElem_map, List.getElem_range]
    have k := hq i hi'
    rwa [ea] at k
/-- The row's last step, where of the world behind the call it is known that nothing has turned below its own blocks. -/
theorem post_under {f : Func} {s : ChangeSpec} {apart fresh handsOn again : Bool} {W W' : World} {args : Array Value} {v : Value} {ds gs : List (DataW H)} {before pa pv : List MemPlace}
    (hW : DataW.Whole enc Try.prog f.params.toList s.vars apart W args.toList ds gs before)
    (hres : ∀ (b : Nat) (sp : Nat → Bool) (hd : Bool), DataW.TrodAll enc Try.prog W' b sp hd f.resultTypes.toList (v.resultList f.resultTypes.size) (s.fn H (ds ++ gs)).results [])
    (hargs : ∀ sp : Nat → Bool, (∀ p ∈ before, sp p.block = true) → DataW.TrodAll enc Try.prog W' 0 sp true f.params.toList args.toList (s.fn H (ds ++ gs)).args pa)
    (hvars : ∀ sp : Nat → Bool, (∀ p ∈ before, sp p.block = true) → DataW.TrodVars enc Try.prog W' sp s.vars (s.fn H (ds ++ gs)).vars pv)
    (hps : before = pa ++ pv) (hb : Below W.heap.size W W')
    (hok : ∀ (j : Nat) (t : TypeId) (r : Value), f.resultTypes[j]? = some t → (v.resultList f.resultTypes.size)[j]? = some r → Value.okWide Try.prog W' .any 0 t r) :
    s.post enc Try.prog f apart fresh handsOn again W args v W' := by
  have hlt : ∀ p ∈ before, p.block < W.heap.size := fun p hp => hW.lt p hp
  have hsp : ∀ p ∈ before, (fun b => decide (b < W.heap.size)) p.block = true := fun p hp => by simpa using hlt p hp
  refine ⟨ds, gs, before, [], pa, pv, hW, hres _ _ _, hargs _ hsp, hvars _ hsp, World.keptBut_mono (fun p hp => ⟨hp, ?_⟩) (hb.frame (· ∈ before)), fun _ => ?_⟩
  · rw [hps, List.mem_append] at hp
    exact .inr hp
  · obtain ⟨_, _, _, _, _, hfz, hnd⟩ := hW
    refine ⟨hok, _, _, ([] ++ pa) ++ pv, ⟨[] ++ pa, pv, trodAll_append (hargs _ fun _ _ => rfl) (hres _ _ _), hvars _ fun _ _ => rfl, rfl, fun b off hp => ?_, fun ha => ?_⟩, fun p hp _ => ?_⟩
    · have hin : MemPlace.cell b off ∈ before := by rw [hps]; simpa using hp
      rw [hb.frozen (hlt _ hin)]
      exact hfz b off hin
    · have := hnd ha
      rw [hps] at this
      simpa using this
    · rw [hps]
      simpa using hp
/-- An argument reads behind the call as it did: nothing below the call's own blocks has turned. -/
theorem again {w w' : World} {sp : Nat → Bool} {t : TypeId} (hr : Try.prog.readableRec t = true) (hrow : t < Try.prog.types.size) {v : Value} {d : DataW H} {p : List MemPlace}
    (h : DataW.Trod enc Try.prog w 0 (fun _ => true) true t v d p) (hb : Below w.heap.size w w') (hlt : ∀ q ∈ p, q.block < w.heap.size) (hs : ∀ q ∈ p, sp q.block = true) : DataW.Trod enc Try.prog w' 0 sp true t v d p := by
  obtain ⟨n, hn⟩ := h
  exact ⟨n, DataW.trod_stays (kids_book (by kernel_rfl) hr) (book_sized hr) (fun h => by cases h) ⟨hrow, book_self t⟩ hn (fun q hq => hb.same (hlt q hq)) hs⟩
end
end Go.Proofs.Ytngfffbnofejmaa
