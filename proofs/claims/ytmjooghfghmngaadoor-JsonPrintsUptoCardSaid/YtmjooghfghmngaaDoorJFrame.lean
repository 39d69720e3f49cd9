/- What the seat's laws share: the tables of unicode/utf8 out of what the row lists, a world that holds them, how a string comes in, and that it reads behind the call as it did. -/
import Derived.Test.YtmjooghfghmngaaDoorCards
import Derived.Test.YtmjooghfghmngaaDoorTie
import Derived.Test.YtmjooghfghmngaaDoorJAns
import Derived.WalkKit
import Derived.ProofKit
import Derived.OpenShut
import Derived.Deep.DeepHandedRow
import Derived.Lib.LaidTab
import Derived.Lib.LaidU8
import Derived.Lib.SmallJoins
import Derived.Stop.LaidErr
import Derived.ChangeStays
import Derived.SizedLaws
import Derived.ChangeBook
set_option maxRecDepth 100000
namespace Go.Proofs.YtmjooghfghmngaaDoor
open Go.Joins Go.ChangeShapes Go.WideShapes Go.ChangeAt Go.RowKit

theorem own : ownKnob Tryd.prog.godebug = none := by kernel_rfl
/-- The list that each row of the seat bears. -/
def laidList : List (String × DataW Unit) := [("unicode/utf8.acceptRanges", Rows.laid_unicode_utf8_acceptRanges), ("unicode/utf8.first", Rows.laid_unicode_utf8_first)]
theorem first_eq : Rows.laid_unicode_utf8_first = Lib.firstData := by kernel_rfl
theorem accept_eq : (Rows.laid_unicode_utf8_acceptRanges : DataW Unit) = Lib.acceptData := by kernel_rfl
theorem extra : U8Extra Tryd.prog Tryd.lays260_ren where
  n3 := by kernel_rfl
  n4 := by kernel_rfl
  y3 := by kernel_rfl
  y4 := by kernel_rfl
  c5 := by kernel_rfl
  c119 := by kernel_rfl
  c138 := by kernel_rfl
/-- WHAT THE ROW's LIST GIVES: the tables that characters are read by. -/
theorem env_of {W : World} (h : laidMetH Tryd.prog laidList W) : Env W := by
  have hm : laidMet Tryd.prog laidList W := h
  have h3 := Lib.laidMet.reads hm (n := "unicode/utf8.first") (d := Rows.laid_unicode_utf8_first) (by simp [laidList])
  have h4 := Lib.laidMet.reads hm (n := "unicode/utf8.acceptRanges") (d := Rows.laid_unicode_utf8_acceptRanges) (by simp [laidList])
  rw [first_eq] at h3
  rw [accept_eq] at h4
  have hT : Lib.Utf8Tabs 0 1 W := utf8Tabs_of_reads Tryd.lays260 extra h3 h4
  exact ⟨hT, World.block_lt_of_cell? W _ (hT.1 0 (by decide)), World.block_lt_of_cell? W _ (hT.2 0 (by decide)).1⟩

/-- A world for the witness: the settled one, the listed variables holding what their initialisers lay. -/
def fill (l : List (IntKind × Int)) : Obj → Obj
  | .cells _ t frozen => .cells (l.map fun x => Value.int x.1 x.2).toArray t frozen
  | o => o
def nums1 (k : IntKind) : List (DataW Unit) → List (IntKind × Int)
  | [] => []
  | .lit (.int _ n) :: r => (k, n) :: nums1 k r
  | _ :: r => nums1 k r
def nums (k : IntKind) : DataW Unit → List (IntKind × Int)
  | .agg ds => nums1 k ds
  | _ => []
def nums2 (k : IntKind) : DataW Unit → List (IntKind × Int)
  | .agg ds => ds.flatMap (nums k)
  | _ => []
noncomputable def laidWorld (os : Os) : World :=
  { World.holding Tryd.prog os ⟨#[], #[], []⟩ with heap := (((World.holding Tryd.prog os ⟨#[], #[], []⟩).heap.modify 0 (fill (nums .u8 Rows.laid_unicode_utf8_first))).modify 1 (fill (nums2 .u8 Rows.laid_unicode_utf8_acceptRanges))) }

section
variable {H : Type} {enc : TypeId × Value → H} {w : World} {base : Nat} {spare : Nat → Bool} {held : Bool}
/-- The row's last step, where of the world behind the call it is known that nothing has turned below its own blocks. -/
theorem post_under {f : Func} {s : ChangeSpec} {apart fresh handsOn again : Bool} {W W' : World} {args : Array Value} {v : Value} {ds gs : List (DataW H)} {before pa pv : List MemPlace}
    (hW : DataW.Whole enc Tryd.prog f.params.toList s.vars apart W args.toList ds gs before)
    (hres : ∀ (b : Nat) (sp : Nat → Bool) (hd : Bool), DataW.TrodAll enc Tryd.prog W' b sp hd f.resultTypes.toList (v.resultList f.resultTypes.size) (s.fn H (ds ++ gs)).results [])
    (hargs : ∀ sp : Nat → Bool, (∀ p ∈ before, sp p.block = true) → DataW.TrodAll enc Tryd.prog W' 0 sp true f.params.toList args.toList (s.fn H (ds ++ gs)).args pa)
    (hvars : ∀ sp : Nat → Bool, (∀ p ∈ before, sp p.block = true) → DataW.TrodVars enc Tryd.prog W' sp s.vars (s.fn H (ds ++ gs)).vars pv)
    (hps : before = pa ++ pv) (hb : Below W.heap.size W W')
    (hok : ∀ (j : Nat) (t : TypeId) (r : Value), f.resultTypes[j]? = some t → (v.resultList f.resultTypes.size)[j]? = some r → Value.okWide Tryd.prog W' .any 0 t r) :
    s.post enc Tryd.prog f apart fresh handsOn again W args v W' := by
  have hlt : ∀ p ∈ before, p.block < W.heap.size := fun p hp => hW.lt p hp
  have hsp : ∀ p ∈ before, (fun b => decide (b < W.heap.size)) p.block = true := fun p hp => by simpa using hlt p hp
  refine ⟨ds, gs, before, [], pa, pv, hW, hres _ _ _, hargs _ hsp, hvars _ hsp, World.keptBut_mono (fun p hp => ⟨hp, ?_⟩) (hb.frame (· ∈ before)), fun _ => ?_⟩
  · rw [hps, List.mem_append] at hp
    exact .inr hp
  · obtain ⟨_, _, _, _, _, hfz, hnd⟩ := hW
    refine ⟨hok, _, _, ([] ++ pa) ++ pv, ⟨[] ++ pa, pv, trodAll_append (hargs _ fun _ _ => rfl) (hres _ _ _), hvars _ fun _ _ => rfl, rfl, fun b off hp => ?_, fun ha => ?_⟩, fun p hp _ => ?_⟩
    · have hin : MemPlace.cell b off ∈ before := by rw [hps]; simpa using hp
      rw [hb.frozen (hlt _ hin)]
      exact hfz b off hin
    · have := hnd ha
      rw [hps] at this
      simpa using this
    · rw [hps]
      simpa using hp
/-- An argument reads behind the call as it did: nothing below the call's own blocks has turned. -/
theorem again {w w' : World} {sp : Nat → Bool} {t : TypeId} (hr : Tryd.prog.readableRec t = true) (hrow : t < Tryd.prog.types.size) {v : Value} {d : DataW H} {p : List MemPlace}
    (h : DataW.Trod enc Tryd.prog w 0 (fun _ => true) true t v d p) (hb : Below w.heap.size w w') (hlt : ∀ q ∈ p, q.block < w.heap.size) (hs : ∀ q ∈ p, sp q.block = true) : DataW.Trod enc Tryd.prog w' 0 sp true t v d p := by
  obtain ⟨n, hn⟩ := h
  exact ⟨n, DataW.trod_stays (kids_book (by kernel_rfl) hr) (book_sized hr) (fun h => by cases h) ⟨hrow, book_self t⟩ hn (fun q hq => hb.same (hlt q hq)) hs⟩
theorem open_string {w : World} {r : Reach} {b0 : Nat} {v : Value} {d : DataW H} {p : List MemPlace} (hv : Value.okWide Tryd.prog w r b0 9 v) (h : DataW.Trod enc Tryd.prog w 0 (fun _ => true) true 9 v d p) : ∃ s : ByteArray, v = .string s ∧ s.size ≤ maxLen := by
  have hu : Tryd.prog.underlying 9 = some .string := Tryd.underlying9
  obtain ⟨fuel, hf⟩ := h
  obtain ⟨s, h1, -, hs⟩ := DataW.trod_string hu hf
  obtain ⟨s', rfl⟩ := okWide_string hu hv
  simp only [Value.cells, List.cons.injEq, Value.string.injEq, and_true] at h1
  subst h1
  exact ⟨_, rfl, hs⟩
end
end Go.Proofs.YtmjooghfghmngaaDoor
