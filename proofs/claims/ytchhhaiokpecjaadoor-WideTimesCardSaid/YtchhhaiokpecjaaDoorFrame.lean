/- What the seat's laws share: the table that the library's digits are counted by, a world that holds the listed variables, how a pair of words comes in and reads behind the call. -/
import Derived.Test.YtchhhaiokpecjaaDoorCards
import Derived.Test.YtchhhaiokpecjaaDoorTie
import Derived.Test.YtchhhaiokpecjaaDoorText
import Derived.WalkKit
import Derived.ProofKit
import Derived.OpenShut
import Derived.Deep.DeepHandedRow
import Derived.Lib.LaidTab
import Derived.Lib.SmallJoins
import Derived.Lib.ItoaNum
import Derived.Stop.LaidErr
namespace Go.Proofs.YtchhhaiokpecjaaDoor
open Go.Joins Go.ChangeShapes Go.WideShapes Go.ChangeAt Go.RowKit

theorem own : ownKnob Tryd.prog.godebug = none := by kernel_rfl
theorem gTab : Tryd.prog.globalNamed "internal/strconv.uint64pow10" = some 2 := by kernel_rfl
theorem gTabType : (Tryd.prog.globals[2]?).map (·.type) = some 90 := by kernel_rfl
theorem cellsTab : Tryd.prog.cellsOf 90 = 20 := by kernel_rfl
theorem cellsU64 : Tryd.prog.cellsOf 23 = 1 := by kernel_rfl

/-- The list that each row of the seat bears. -/
def laidList : List (String × DataW Unit) := [("math/bits.deBruijn32tab", Rows.laid_math_bits_deBruijn32tab), ("math/bits.deBruijn64tab", Rows.laid_math_bits_deBruijn64tab), ("internal/strconv.uint64pow10", Rows.laid_internal_strconv_uint64pow10)]

/-- WHAT THE ROW's LIST GIVES: the table's cells hold the powers of ten. -/
theorem table {W : World} (h : laidMetH Tryd.prog laidList W) : Lib.TabIs Tryd.prog W "internal/strconv.uint64pow10" .u64 Lib.pow10Tab :=
  Lib.tabIs_of_head (rest := []) gTab gTabType Tryd.underlying90 Tryd.underlying23 cellsU64 cellsTab (laidMet.tail (laidMet.tail h))

/-- A world for the witness: the settled one, the listed variables holding what their initialisers lay. -/
def fill (l : List (IntKind × Int)) : Obj → Obj
  | .cells _ t frozen => .cells (l.map fun x => Value.int x.1 x.2).toArray t frozen
  | o => o
def nums (k : IntKind) : DataW Unit → List (IntKind × Int)
  | .agg ds => ds.filterMap fun
    | .lit (.int _ n) => some (k, n)
    | _ => none
  | _ => []
noncomputable def laidWorld (os : Os) : World :=
  { World.holding Tryd.prog os ⟨#[], #[], []⟩ with heap := (((World.holding Tryd.prog os ⟨#[], #[], []⟩).heap.modify 2 (fill (nums .u64 Rows.laid_internal_strconv_uint64pow10))).modify 4 (fill (nums .u8 Rows.laid_math_bits_deBruijn32tab))).modify 5 (fill (nums .u8 Rows.laid_math_bits_deBruijn64tab)) }

section
variable {H : Type} {enc : TypeId × Value → H} {w : World} {base : Nat} {spare : Nat → Bool} {held : Bool}
/-- A 128-bit integer that comes in is a pair of words. -/
theorem open_pair {r : Reach} {b0 : Nat} {v : Value} {d : DataW H} {p : List MemPlace} (hv : Value.okWide Tryd.prog w r b0 25 v) (h : DataW.Trod enc Tryd.prog w base spare held 25 v d p) :
    ∃ hi lo : Int, v = .agg #[.int .i64 hi, .int .u64 lo] ∧ d = .agg [.lit (.int .i64 hi), .lit (.int .u64 lo)] ∧ p = [] ∧ Wf hi lo := by
  obtain ⟨v0, v1, y0, y1, n, rfl, rfl, rfl, h0, h1⟩ := open_agg2 Tryd.underlying25 (by kernel_rfl) (by kernel_rfl) hv h
  obtain ⟨x, e0, rfl, w0⟩ := DataW.trod_int Tryd.underlying2 h0
  obtain ⟨y, e1, rfl, w1⟩ := DataW.trod_int Tryd.underlying23 h1
  obtain rfl : v0 = .int .i64 x := by simpa using e0
  obtain rfl : v1 = .int .u64 y := by simpa using e1
  refine ⟨x, y, rfl, rfl, rfl, ?_⟩
  have b0 := bounds_i64 w0
  have b1 := bounds_u64 w1
  unfold Wf
  omega
theorem wf_i64 {n : Int} (h0 : -9223372036854775808 ≤ n) (h1 : n ≤ 9223372036854775807) : (Lit.int .i64 n).wf = true := by
  simp [Lit.wf, IntKind.min, IntKind.max, IntKind.signed, IntKind.bits]; omega
theorem wf_u64 {n : Int} (h0 : 0 ≤ n) (h1 : n ≤ 18446744073709551615) : (Lit.int .u64 n).wf = true := by
  simp [Lit.wf, IntKind.min, IntKind.max, IntKind.signed, IntKind.bits]; omega
/-- It reads behind the call as it did. -/
theorem shut_pair {hi lo : Int} (wf : Wf hi lo) : DataW.Trod enc Tryd.prog w base spare held 25 (.agg #[.int .i64 hi, .int .u64 lo]) (.agg [.lit (.int .i64 hi), .lit (.int .u64 lo)]) [] :=
  shut_agg2 (y0 := (.lit (.int .i64 hi), [])) (y1 := (.lit (.int .u64 lo), [])) Tryd.underlying25 (by kernel_rfl) (by kernel_rfl)
    ⟨1, by simp [DataW.trod, Tryd.underlying2, wf_i64 wf.1 wf.2.1]⟩ ⟨1, by simp [DataW.trod, Tryd.underlying23, wf_u64 wf.2.2.1 wf.2.2.2]⟩

/-- The row's last step, where of the world behind the call it is known that nothing has turned below its own blocks. -/
theorem post_under {f : Func} {s : ChangeSpec} {apart fresh handsOn again : Bool} {W W' : World} {args : Array Value} {v : Value} {ds gs : List (DataW H)} {before pa pv : List MemPlace}
    (hW : DataW.Whole enc Tryd.prog f.params.toList s.vars apart W args.toList ds gs before)
    (hres : ∀ (b : Nat) (sp : Nat → Bool) (hd : Bool), DataW.TrodAll enc Tryd.prog W' b sp hd f.resultTypes.toList (v.resultList f.resultTypes.size) (s.fn H (ds ++ gs)).results [])
    (hargs : ∀ sp : Nat → Bool, (∀ p ∈ before, sp p.block = true) → DataW.TrodAll enc Tryd.prog W' 0 sp true f.params.toList args.toList (s.fn H (ds ++ gs)).args pa)
    (hvars : ∀ sp : Nat → Bool, (∀ p ∈ before, sp p.block = true) → DataW.TrodVars enc Tryd.prog W' sp s.vars (s.fn H (ds ++ gs)).vars pv)
    (hps : before = pa ++ pv) (hb : Below W.heap.size W W')
    (hok : ∀ (j : Nat) (t : TypeId) (r : Value), f.resultTypes[j]? = some t → (v.resultList f.resultTypes.size)[j]? = some r → Value.okWide Tryd.prog W' .any 0 t r) :
    s.post enc Tryd.prog f apart fresh handsOn again W args v W' := by
  have hlt : ∀ p ∈ before, p.block < W.heap.size := fun p hp => hW.lt p hp
  have hsp : ∀ p ∈ before, (fun b => decide (b < W.heap.size)) p.block = true := fun p hp => by simpa using hlt p hp
  refine ⟨ds, gs, before, [], pa, pv, hW, hres _ _ _, hargs _ hsp, hvars _ hsp, World.keptBut_mono (fun p hp => ⟨hp, ?_⟩) (hb.frame (· ∈ before)), fun _ => ?_⟩
  · rw [hps, List.mem_append] at hp
    exact .inr hp
  · obtain ⟨_, _, _, _, _, hfz, hnd⟩ := hW
    refine ⟨hok, _, _, ([] ++ pa) ++ pv, ⟨[] ++ pa, pv, trodAll_append (hargs _ fun _ _ => rfl) (hres _ _ _), hvars _ fun _ _ => rfl, rfl, fun b off hp => ?_, fun ha => ?_⟩, fun p hp _ => ?_⟩
    · have hin : MemPlace.cell b off ∈ before := by rw [hps]; simpa using hp
      rw [hb.frozen (hlt _ hin)]
      exact hfz b off hin
    · have := hnd ha
      rw [hps] at this
      simpa using this
    · rw [hps]
      simpa using hp
end
end Go.Proofs.YtchhhaiokpecjaaDoor
