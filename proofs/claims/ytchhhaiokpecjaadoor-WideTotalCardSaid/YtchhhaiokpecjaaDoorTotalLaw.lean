/- The law WideTotal: the frame round its walk. -/
import Derived.Test.YtchhhaiokpecjaaDoorTotal
import Derived.Deep.SlicePairs
import Derived.ChangeStays
import Derived.SizedLaws
import Derived.ChangeBook
namespace Go.Proofs.YtchhhaiokpecjaaDoor.wideTotal
open Go.Joins Go.ChangeShapes Go.WideShapes Go.ChangeAt Go.RowKit

section
variable {H : Type} {enc : TypeId × Value → H}
/-- An argument reads behind the call as it did: nothing below the call's own blocks has turned. -/
theorem again {w w' : World} {sp : Nat → Bool} {t : TypeId} (hr : Tryd.prog.readableRec t = true) (hrow : t < Tryd.prog.types.size) {v : Value} {d : DataW H} {p : List MemPlace}
    (h : DataW.Trod enc Tryd.prog w 0 (fun _ => true) true t v d p) (hb : Below w.heap.size w w') (hlt : ∀ q ∈ p, q.block < w.heap.size) (hs : ∀ q ∈ p, sp q.block = true) : DataW.Trod enc Tryd.prog w' 0 sp true t v d p := by
  obtain ⟨n, hn⟩ := h
  exact ⟨n, DataW.trod_stays (kids_book (by kernel_rfl) hr) (book_sized hr) (fun h => by cases h) ⟨hrow, book_self t⟩ hn (fun q hq => hb.same (hlt q hq)) hs⟩
theorem lo_wf {n : Int} (h : (Lit.int .u64 n).wf = true) : 0 ≤ n ∧ n < 18446744073709551616 := by
  have := bounds_u64 h
  omega
/-- A list of 128-bit integers that comes in: its cells. -/
theorem open_list {w : World} {r : Reach} {b0 : Nat} {v : Value} {d : DataW H} {p : List MemPlace} (hv : Value.okWide Tryd.prog w r b0 35 v) (h : DataW.Trod enc Tryd.prog w 0 (fun _ => true) true 35 v d p) (hlt : ∀ q ∈ p, q.block < w.heap.size) :
    ∃ (A : Option Addr) (ps : List (Int × Int)) (cap : Nat), v = .slice A ps.length cap ∧ (A = none → cap = 0) ∧ Pairs w w.heap.size A ps ∧ (∀ q ∈ ps, Wf q.1 q.2) ∧ (ps = [] ∨ ∃ els sp, d = .slice els sp ∧ els.length = ps.length) := by
  obtain ⟨a0, l0, c0, rfl⟩ := okWide_slice Tryd.underlying35 hv
  obtain ⟨fuel, hf⟩ := h
  rcases Go.Deep.open_slice_pairs Tryd.underlying35 Tryd.underlying25 (by kernel_rfl) rfl rfl (by kernel_rfl) (by kernel_rfl) hf with ⟨h1, h2⟩ | ⟨a, len, cap, m, n, V0, V1, D0, D1, P0, P1, h1, hba, hlc, hcm, hm, hx, hcell⟩
  · simp only [Value.cells, List.cons.injEq, Value.slice.injEq, and_true] at h1
    obtain ⟨rfl, rfl, rfl⟩ := h1
    exact ⟨none, [], 0, rfl, fun _ => rfl, fun hp => absurd hp (by simp), (fun q hq => by cases hq), Or.inl rfl⟩
  · simp only [Value.cells, List.cons.injEq, Value.slice.injEq, and_true] at h1
    obtain ⟨rfl, rfl, rfl⟩ := h1
    obtain ⟨rfl, rfl⟩ := Prod.mk.inj hx
    simp only [if_true] at hm
    subst hm
    have hcs := fun i (hi : i < l0) => hcell i (by omega)
    have each : ∀ i, i < l0 → ∃ q : Int × Int, V0 i = .int .i64 q.1 ∧ V1 i = .int .u64 q.2 ∧ Wf q.1 q.2 := fun i hi => by
      obtain ⟨-, -, t0, t1⟩ := hcs i hi
      obtain ⟨x, e0, -, w0⟩ := DataW.trod_int Tryd.underlying2 t0
      obtain ⟨y, e1, -, w1⟩ := DataW.trod_int Tryd.underlying23 t1
      have b0 := bounds_i64 w0
      have b1 := lo_wf w1
      exact ⟨(x, y), by simpa using e0, by simpa using e1, by unfold Wf; omega⟩
    obtain ⟨q, hq⟩ := Go.Deep.choose_lt each
    refine ⟨some a, (List.range l0).map q, m, by simp, fun h => (by cases h), fun hp => ?_, fun z hz => ?_, Or.inr ⟨_, _, rfl, by simp⟩⟩
    · have hl : 0 < l0 := by simpa using hp
      have hab : a.block < w.heap.size := by
        have := World.block_lt_of_cell? w _ (hcs 0 hl).1
        rwa [block_of_add] at this
      refine ⟨a, rfl, hab, fun k p hk => ?_⟩
      have hkl : k < l0 := by
        have := (List.getElem?_eq_some_iff.1 hk).1
        simpa using this
      obtain rfl : q k = p := by simpa [hkl] using hk
      obtain ⟨c0, c1, -, -⟩ := hcs k hkl
      obtain ⟨e0, e1, -⟩ := hq k hkl
      exact ⟨by rw [c0, e0], by rw [Go.Deep.add_add, c1, e1]⟩
    · obtain ⟨i, hi, rfl⟩ := List.mem_map.1 hz
      exact (hq i (List.mem_range.1 hi)).2.2
end
theorem contract (H : Type) (enc : TypeId × Value → H) (W : World) (base : Nat) (args : Array Value) (ds gs : List (DataW H)) (before : List MemPlace)
    (hval : ∀ (j : Nat) t v, Tryd.f5.params[j]? = some t → args[j]? = some v → Value.okWide Tryd.prog W .any base t v)
    (hW : DataW.Whole enc Tryd.prog Tryd.f5.params.toList Rows.wideTotalSpec.vars false W args.toList ds gs before)
    (hsz : (DataW.weightsEach Tryd.prog (Tryd.f5.params.toList ++ (OpenSpec.ofChange Rows.wideTotalSpec).bare.plain.varTypes Tryd.prog) (ds ++ gs)).all (· ≤ reachBytes) = true) (hL : laidMetH Tryd.prog Rows.wideTotalRow.laid W) :
    Calls Tryd.prog 5 args W fun e W' => ∃ v, e = .returned v ∧ Rows.wideTotalSpec.post enc Tryd.prog Tryd.f5 false true false false W args v W' := by
  have hW' := hW
  have hlt := fun p hp => hW.lt p hp
  obtain ⟨p, q, hA0, hV, rfl, hfz, hnd⟩ := hW
  have hA : DataW.TrodAll enc Tryd.prog W 0 (fun _ => true) true Tryd.f5.params.toList args.toList ds p := hA0
  rw [Tryd.params5] at hA hval
  obtain ⟨v0, d0, rfl, rfl, h0⟩ := trodAll_one hA
  obtain ⟨rfl, rfl⟩ := trodVars_none hV
  have hlp : ∀ q ∈ p, q.block < W.heap.size := fun q hq => hlt q (by simpa using hq)
  obtain ⟨A, ps, cap, rfl, hnil, hpr, hwf, hd⟩ := open_list (hval 0 35 v0 rfl rfl) h0 hlp
  have hn : ps.length * 16 ≤ 140737488355328 := by
    rcases hd with rfl | ⟨els, sp, rfl, hl⟩
    · simp
    · have h := sized_slice hsz (j := 0) (t := 35) (elems := els) (spare := sp) (by rw [Tryd.params5]; rfl) rfl Tryd.underlying35
      rw [show Tryd.prog.bytesOf 25 = 16 by kernel_rfl] at h
      have := reachBytes_lt
      omega
  clear hA0
  refine (law_walk ps A cap hn hnil W hpr hwf (Lib.tabBelow_of_tabIs (table hL))).mono fun e W' ⟨he, hb⟩ => ?_
  subst he
  exact ⟨_, rfl, post_under (pa := p) (pv := []) hW' (fun _ _ _ => trodAll_cons_mk (shut_bool Tryd.underlying4 _) trodAll_mk0)
    (fun _ hs => trodAll_mk1 (again (by kernel_rfl) (of_decide_eq_true (by kernel_rfl)) h0 hb hlp (fun q hq => hs q (by simpa using hq)))) (fun _ _ => rfl) rfl
    hb (ok_one (by kernel_rfl) rfl (okWide_bool_mk Tryd.underlying4 _))⟩

noncomputable def wit : Array Value := #[.slice none 0 0]
theorem laid_met (os : Os) : laidMet Tryd.prog Rows.wideTotalRow.laid ((laidWorld os).forCall (fun _ _ => 0) ⟨#[], wit, []⟩).memory :=
  laidMet_of_run' 8 (by kernel_rfl) (by kernel_rfl)
theorem reads (os : Os) {H : Type} (enc : TypeId × Value → H) : ∃ places, DataW.whole enc Tryd.prog ((laidWorld os).forCall (fun _ _ => 0) ⟨#[], wit, []⟩).memory Tryd.f5.params.toList Rows.wideTotalSpec.vars false wit.toList 8 = some ([.nil], [], places) :=
  ⟨[], by kernel_rfl⟩

set_option maxRecDepth 100000 in
theorem lifted (os : Os) (started : os.Started) (H : Type) (enc : TypeId × Value → H) (F : Stop.Interp) :
    ReturnsInHanded {} Tryd.checked os 5 .any ((OpenSpec.ofChange Rows.wideTotalSpec).preRow enc Tryd.prog Tryd.f5 Rows.wideTotalRow.domain false Rows.wideTotalRow.laid) (((OpenSpec.ofChange Rows.wideTotalSpec).at F).post enc Tryd.prog Tryd.f5 false true false false) := by
  obtain ⟨places, hx⟩ := reads os enc
  refine returnsInHanded_of_row (C := Tryd.checked) (s := OpenSpec.ofChange Rows.wideTotalSpec) own started (by kernel_rfl) Tryd.func5
    (witness_row_at (enc := enc) (C := Tryd.checked) false (laidWorld os) wit rfl (by kernel_rfl) (by kernel_rfl) (by kernel_rfl)
      (OpenSpec.preRow_of_cond 8 hx (by kernel_rfl) (fun k hk => by cases hk) (by kernel_rfl) (laid_met os))) ?_
  intro W base args ds gs before hval hW _ _ hsz hL _ _
  exact contract H enc W base args ds gs before hval hW hsz hL

theorem said : Rows.WideTotalSaid :=
  OpenClaim.holds_of_cond 5 Tryd.f5 rfl rfl rfl rfl rfl rfl rfl ⟨rfl, rfl, rfl, rfl, rfl⟩ rfl rfl rfl rfl rfl (by kernel_rfl) Tryd.func5 (by kernel_rfl)
    (of_decide_eq_true (by kernel_rfl)) (by unfold Func.isWrapper; first | (rw [if_pos (by decide +kernel)]; kernel_rfl) | (rw [if_neg (by decide +kernel)]; exact ⟨rfl, rfl⟩))
    (fun os started H enc _ F => by rw [OpenClaim.pre_eq_preRow]; exact lifted os started H enc F)

theorem plain (f : FuncId) (fn : Func) (hf : Tryd.pinned.checked.prog.funcNamed "merestone/merestonelaw01.WideTotal" = some f) (hfn : Tryd.pinned.checked.prog.funcs[f]? = some fn) :
    false = Tryd.pinned.checked.prog.looks [] ∧ ∀ (j : Nat) t, fn.params[j]? = some t → Tryd.pinned.checked.prog.wantsStandIn t = false := by
  obtain rfl : f = 5 := Option.some.inj ((show Tryd.prog.funcNamed "merestone/merestonelaw01.WideTotal" = some 5 by kernel_rfl).symm.trans hf) |>.symm
  obtain rfl : fn = Tryd.f5 := (Option.some.inj (Tryd.func5.symm.trans hfn)).symm
  refine ⟨by kernel_rfl, fun j t ht => ?_⟩
  rw [Tryd.params5] at ht
  have hm := Array.mem_of_getElem? ht
  have all : ∀ t ∈ (#[35] : Array TypeId), Tryd.prog.wantsStandIn t = false := by decide +kernel
  exact all t hm

theorem card : Rows.WideTotalCardSaid :=
  Claim7.holds_tied_plain_at .later [] _ _ _ _ said (fun _ h => by cases h) (by kernel_rfl) (fun _ h => by cases h) wideTotal_row_tie rfl ⟨rfl, rfl⟩ (by kernel_rfl) rfl plain (by kernel_rfl)
end Go.Proofs.YtchhhaiokpecjaaDoor.wideTotal
