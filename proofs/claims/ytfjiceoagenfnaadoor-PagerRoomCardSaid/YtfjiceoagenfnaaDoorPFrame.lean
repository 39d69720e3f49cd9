/- What the seat's laws share: the table that the sum goes by out of what the row lists, a world that holds it, and what comes in reads behind the call as it did. -/
import Derived.Test.YtfjiceoagenfnaaDoorCards
import Derived.Test.YtfjiceoagenfnaaDoorTie
import Derived.Test.YtfjiceoagenfnaaDoorPFrm
import Derived.WalkKit
import Derived.ProofKit
import Derived.OpenShut
import Derived.Deep.DeepHandedRow
import Derived.Lib.LaidTab
import Derived.Lib.SmallJoins
import Derived.Stop.LaidErr
import Derived.ChangeStays
import Derived.SizedLaws
import Derived.ChangeBook
import Derived.Deep.Slices
set_option maxRecDepth 100000
namespace Go.Proofs.YtfjiceoagenfnaaDoor
open Go.Joins Go.ChangeShapes Go.WideShapes Go.ChangeAt Go.RowKit

theorem own : ownKnob Tryd.prog.godebug = none := by kernel_rfl
/-- The list that each row of the seat bears. -/
def laidList : List (String × DataW Unit) := [("merestone/frame.byFour", Rows.laid_merestone_frame_byFour)]
def fourZ : List Int := List.map (fun n : Nat => (n : Int)) byFour
theorem four_eq : (Rows.laid_merestone_frame_byFour : DataW Unit) = Lib.tabData .u32 fourZ := by kernel_rfl
/-- WHAT THE ROW's LIST GIVES: the table that the sum goes by. -/
theorem env_of {W : World} (h : laidMetH Tryd.prog laidList W) : Env W := by
  have hm : laidMet Tryd.prog laidList W := h
  have hm2 : laidMet Tryd.prog [("merestone/frame.byFour", Lib.tabData .u32 fourZ)] W := by rw [← four_eq]; exact hm
  have hT := Lib.tabIs_of_head (P := Tryd.prog) (g := 0) (t := 108) (e := 93) (n := 16) (by kernel_rfl) (by kernel_rfl) (by kernel_rfl) (by kernel_rfl) (by kernel_rfl) (by kernel_rfl) hm2
  have hc : ∀ i, i < 16 → W.cell? ⟨0, i, none⟩ = some (.int .u32 (byFour.getD i 0 : Nat)) := fun i hi => by
    have := hT.cell (g := 0) (by kernel_rfl) i hi
    rw [this]
    simp [fourZ, List.getD_eq_getElem?_getD, List.getElem?_eq_getElem (show i < byFour.length from hi)]
  exact ⟨hc, World.block_lt_of_cell? W _ (hc 0 (by decide))⟩

/-- A world for the witness: the settled one, the listed variables holding what their initialisers lay. -/
def fill (l : List (IntKind × Int)) : Obj → Obj
  | .cells _ t frozen => .cells (l.map fun x => Value.int x.1 x.2).toArray t frozen
  | o => o
def nums1 (k : IntKind) : List (DataW Unit) → List (IntKind × Int)
  | [] => []
  | .lit (.int _ n) :: r => (k, n) :: nums1 k r
  | _ :: r => nums1 k r
def nums (k : IntKind) : DataW Unit → List (IntKind × Int)
  | .agg ds => nums1 k ds
  | _ => []
noncomputable def laidWorld (os : Os) : World :=
  { World.holding Tryd.prog os ⟨#[], #[], []⟩ with heap := (World.holding Tryd.prog os ⟨#[], #[], []⟩).heap.modify 0 (fill (nums .u32 Rows.laid_merestone_frame_byFour)) }

/-- Where a cell is read, the address is none within a cell. -/
theorem cell_spot {w : World} {b o : Nat} {sp : Option Nat} {v : Value} (h : w.cell? ⟨b, o, sp⟩ = some v) : sp = none := by
  cases sp with
  | none => rfl
  | some n =>
    exfalso
    unfold World.cell? at h
    simp only at h
    split at h <;> simp_all
section
variable {H : Type} {enc : TypeId × Value → H} {w : World} {base : Nat} {spare : Nat → Bool} {held : Bool}
/-- The row's last step, where of the world behind the call it is known that nothing has turned below its own blocks. -/
theorem post_under {f : Func} {s : ChangeSpec} {apart fresh handsOn again : Bool} {W W' : World} {args : Array Value} {v : Value} {ds gs : List (DataW H)} {before pa pv : List MemPlace}
    (hW : DataW.Whole enc Tryd.prog f.params.toList s.vars apart W args.toList ds gs before)
    (hres : ∀ (b : Nat) (sp : Nat → Bool) (hd : Bool), DataW.TrodAll enc Tryd.prog W' b sp hd f.resultTypes.toList (v.resultList f.resultTypes.size) (s.fn H (ds ++ gs)).results [])
    (hargs : ∀ sp : Nat → Bool, (∀ p ∈ before, sp p.block = true) → DataW.TrodAll enc Tryd.prog W' 0 sp true f.params.toList args.toList (s.fn H (ds ++ gs)).args pa)
    (hvars : ∀ sp : Nat → Bool, (∀ p ∈ before, sp p.block = true) → DataW.TrodVars enc Tryd.prog W' sp s.vars (s.fn H (ds ++ gs)).vars pv)
    (hps : before = pa ++ pv) (hb : Below W.heap.size W W')
    (hok : ∀ (j : Nat) (t : TypeId) (r : Value), f.resultTypes[j]? = some t → (v.resultList f.resultTypes.size)[j]? = some r → Value.okWide Tryd.prog W' .any 0 t r) :
    s.post enc Tryd.prog f apart fresh handsOn again W args v W' := by
  have hlt : ∀ p ∈ before, p.block < W.heap.size := fun p hp => hW.lt p hp
  have hsp : ∀ p ∈ before, (fun b => decide (b < W.heap.size)) p.block = true := fun p hp => by simpa using hlt p hp
  refine ⟨ds, gs, before, [], pa, pv, hW, hres _ _ _, hargs _ hsp, hvars _ hsp, World.keptBut_mono (fun p hp => ⟨hp, ?_⟩) (hb.frame (· ∈ before)), fun _ => ?_⟩
  · rw [hps, List.mem_append] at hp
    exact .inr hp
  · obtain ⟨_, _, _, _, _, hfz, hnd⟩ := hW
    refine ⟨hok, _, _, ([] ++ pa) ++ pv, ⟨[] ++ pa, pv, trodAll_append (hargs _ fun _ _ => rfl) (hres _ _ _), hvars _ fun _ _ => rfl, rfl, fun b off hp => ?_, fun ha => ?_⟩, fun p hp _ => ?_⟩
    · have hin : MemPlace.cell b off ∈ before := by rw [hps]; simpa using hp
      rw [hb.frozen (hlt _ hin)]
      exact hfz b off hin
    · have := hnd ha
      rw [hps] at this
      simpa using this
    · rw [hps]
      simpa using hp
/-- An argument reads behind the call as it did: nothing below the call's own blocks has turned. -/
theorem again {w w' : World} {sp : Nat → Bool} {t : TypeId} (hr : Tryd.prog.readableRec t = true) (hrow : t < Tryd.prog.types.size) {v : Value} {d : DataW H} {p : List MemPlace}
    (h : DataW.Trod enc Tryd.prog w 0 (fun _ => true) true t v d p) (hb : Below w.heap.size w w') (hlt : ∀ q ∈ p, q.block < w.heap.size) (hs : ∀ q ∈ p, sp q.block = true) : DataW.Trod enc Tryd.prog w' 0 sp true t v d p := by
  obtain ⟨n, hn⟩ := h
  exact ⟨n, DataW.trod_stays (kids_book (by kernel_rfl) hr) (book_sized hr) (fun h => by cases h) ⟨hrow, book_self t⟩ hn (fun q hq => hb.same (hlt q hq)) hs⟩
theorem open_bytes {w : World} {r : Reach} {b0 : Nat} {v : Value} {d : DataW H} {p : List MemPlace} (hv : Value.okWide Tryd.prog w r b0 34 v) (h : DataW.Trod enc Tryd.prog w 0 (fun _ => true) true 34 v d p) :
    ∃ (A : Option Addr) (xs : List UInt8) (cap : Nat), v = .slice A xs.length cap ∧ BytesAt w A xs.length xs ∧ (A = none → cap = 0) ∧ xs.length ≤ cap := by
  obtain ⟨a0, l0, c0, rfl⟩ := okWide_slice Tryd.underlying34 hv
  obtain ⟨fuel, hf⟩ := h
  rcases Go.Deep.open_slice1 Tryd.underlying34 (by kernel_rfl) hf with ⟨h1, h2⟩ | ⟨a, len, cap, m, n, V, D, Pl, h1, hba, hlc, hcm, hm, hx, hcell⟩
  · simp only [Value.cells, List.cons.injEq, Value.slice.injEq, and_true] at h1
    obtain ⟨rfl, rfl, rfl⟩ := h1
    exact ⟨none, [], 0, rfl, fun hp => absurd hp (by simp), fun _ => rfl, Nat.le_refl _⟩
  · simp only [Value.cells, List.cons.injEq, Value.slice.injEq, and_true] at h1
    obtain ⟨rfl, rfl, rfl⟩ := h1
    simp only [if_true] at hm
    subst hm
    have each : ∀ i, i < l0 → ∃ q : UInt8, w.cell? (a.add i) = some (.int .u8 (q.toNat : Nat)) := fun i hi => by
      obtain ⟨hc, ht⟩ := hcell i (by omega)
      obtain ⟨x, e0, -, wx⟩ := DataW.trod_int Tryd.underlying5 ht
      have e1 : V i = .int .u8 x := by simpa using e0
      have hb := bounds_u8 wx
      refine ⟨UInt8.ofNat x.toNat, ?_⟩
      rw [hc, e1, UInt8.toNat_ofNat', Nat.mod_eq_of_lt (by omega)]
      congr 2
      omega
    obtain ⟨q, hq⟩ := Go.Deep.choose_lt each
    refine ⟨some a, (List.range l0).map q, m, by simp, fun hp => ?_, (fun e => by cases e), by simpa using hlc⟩
    simp only [List.length_map, List.length_range] at hp ⊢
    obtain ⟨b, o, sp⟩ := a
    have h0 := hq 0 hp
    have hsp : sp = none := by
      simp only [Addr.add] at h0
      exact cell_spot h0
    subst hsp
    refine ⟨b, o, rfl, fun i hi => ?_⟩
    have hi' := hq i hi
    rw [show (⟨b, o, none⟩ : Addr).add i = ⟨b, o + i, none⟩ by simp [Addr.add]] at hi'
    rw [hi']
    simp [List.getD_eq_getElem?_getD, hi]
theorem open_bytes2 {r : Reach} {b0 : Nat} {v : Value} {d : DataW H} {p : List MemPlace} (hv : Value.okWide Tryd.prog w r b0 34 v) (h : DataW.Trod enc Tryd.prog w 0 (fun _ => true) true 34 v d p) :
    ∃ (A : Option Addr) (xs : List UInt8) (cap : Nat), v = .slice A xs.length cap ∧ BytesAt w A xs.length xs ∧ (A = none → cap = 0) ∧ xs.length ≤ cap ∧ ((∀ k ∈ d.weights Tryd.prog 34, k ≤ reachBytes) → xs.length ≤ 140737488351232) := by
  obtain ⟨A, xs, cap, e, hB, hn, hv3⟩ := open_bytes hv h
  refine ⟨A, xs, cap, e, hB, hn, hv3, fun hw => ?_⟩
  obtain ⟨fuel, hf⟩ := h
  rcases Go.Deep.open_slice1 Tryd.underlying34 (by kernel_rfl) hf with ⟨h1, h2⟩ | ⟨a, len, cap', m, n, V, D, Pl, h1, hba, hlc, hcm, hm, hx, hcell⟩
  · rw [e] at h1
    simp only [Value.cells, List.cons.injEq, Value.slice.injEq, and_true] at h1
    omega
  · rw [e] at h1
    simp only [Value.cells, List.cons.injEq, Value.slice.injEq, and_true] at h1
    obtain ⟨-, hl, -⟩ := h1
    have hd := congrArg Prod.fst hx
    simp only at hd
    rw [hd] at hw
    simp only [DataW.weights, Tryd.underlying34, List.mem_cons, List.mem_append] at hw
    have h := hw _ (.inl rfl)
    rw [show Tryd.prog.bytesOf 5 = 1 by kernel_rfl] at h
    have := show reachBytes = 140737488351232 from rfl
    simp only [List.length_map, List.length_range] at h
    omega
end
end Go.Proofs.YtfjiceoagenfnaaDoor
