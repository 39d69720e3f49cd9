/- The printer: text that is added, as long as there is room. -/
import Derived.Test.YtmjooghfghmngaaDoorJGen
import Derived.Lib.AppendStr
import Derived.Lib.OthersKept
import Derived.Lib.SmallJoins
import Derived.Lib.TrimU
import Derived.Stop.FmtQuoteTie
namespace Go.Proofs.YtmjooghfghmngaaDoor
open Go.RowKit Go.Shelf Go.Lib

/-- A printer in block pb; what it owns lies from block B on. -/
structure PR (B : Nat) (W : World) (pb : Nat) (l : List UInt8) : Prop where
  low : B ≤ pb
  fits : l.length ≤ 262144
  own : ∃ v, W.heap[pb]? = some (.cells #[v] 45 (0, 0)) ∧ W.ownsRow B 5 1 v l.length (byV l)
theorem strCells_by (t : ByteArray) : Lib.strCells t = byV t.data.toList := by
  simp [Lib.strCells, byV]
/-- Other blocks than the printer's, and than rows of bytes, stay. -/
def Kept (pb : Nat) (w w' : World) : Prop := w.heap.size ≤ w'.heap.size ∧ ∀ k o, w.heap[k]? = some o → k ≠ pb → (∀ cur fr, o ≠ .cells cur 5 fr) → w'.heap[k]? = some o
theorem Kept.refl (pb : Nat) (w : World) : Kept pb w w := ⟨Nat.le_refl _, fun _ _ h _ _ => h⟩
theorem Kept.trans {pb : Nat} {w w' w2 : World} (h : Kept pb w w') (h2 : Kept pb w' w2) : Kept pb w w2 := ⟨Nat.le_trans h.1 h2.1, fun k o hk hp hc => h2.2 k o (h.2 k o hk hp hc) hp hc⟩
theorem Kept.below {pb : Nat} {w w' : World} (h : Below w.heap.size w w') : Kept pb w w' := ⟨h.size, fun k _ hk _ _ => (h.block k (blk_lt hk)).trans hk⟩
/-- What a step of the printer leaves: the text longer by t, where there is room for it. -/
def OutA (B : Nat) (pb : Nat) (l t : List UInt8) (w : World) (e : Ending) (w' : World) : Prop :=
  Below B w w' ∧ Kept pb w w' ∧ ((l.length + t.length ≤ 262144 ∧ e = .returned (.bool true) ∧ PR B w' pb (l ++ t)) ∨ (262144 < l.length + t.length ∧ e = .returned (.bool false) ∧ ∃ l', PR B w' pb l'))

theorem row_slc {w : World} {B : Nat} {v : Value} {n : Nat} {xs : List Value} (h : w.ownsRow B 5 1 v n xs) : ∃ A c, v = .slice A n c := by
  rcases h.2 with ⟨hv, h0⟩ | ⟨_, c, _, hv, _⟩
  · exact ⟨none, 0, by rw [hv, h0]⟩
  · exact ⟨_, c, hv⟩
set_option maxHeartbeats 1000000 in
set_option maxRecDepth 100000 in
theorem add_any {B : Nat} {W : World} {pb : Nat} {l : List UInt8} (h : PR B W pb l) (t : ByteArray) :
    Calls Tryd.prog 32 #[.pointer (some ⟨pb, 0, none⟩), .string t] W (OutA B pb l t.data.toList W) := by
  obtain ⟨v, hb, hown⟩ := h.own
  have hfits := h.fits
  have hlow := h.low
  obtain ⟨A, c, rfl⟩ := row_slc hown
  have hbs : B ≤ W.heap.size := Nat.le_trans hlow (Nat.le_of_lt (blk_lt hb))
  have hne : (Value.slice A l.length c).ownBlock ≠ some pb := fun e => by
    rcases hown.2 with ⟨hv, _⟩ | ⟨g, c', cur, hv, _, hg, _⟩
    · rw [hv] at e; cases e
    · rw [hv] at e
      simp only [Value.ownBlock, Option.some.injEq] at e
      subst e
      rw [hb] at hg
      cases hg
  have c0 : W.cell? ⟨pb, 0, none⟩ = some (.slice A l.length c) := blk_cell hb 0
  have f0 := blk_frozen hb 0
  have hsz : t.data.toList.length = t.size := (Lib.size_eq t).symm
  have hsub : IntKind.i64.wrap (262144 - (l.length : Int)) = 262144 - (l.length : Int) := IntWalk.i64_in _ (by omega)
  obtain ⟨i, hi, hz0, hz1, hz2⟩ := info_parts infoB
  by_cases hr : l.length + t.size ≤ 262144
  · have hg : ¬ (262144 - (l.length : Int)) < (t.size : Int) := by omega
    have HO := Lib.hid hown
    have HB := Lib.hid hb
    have HN := Lib.hid hne
    clear hown hb hne h
    go_enter Tryd.func32, Tryd.ntmps32
    go_wp2_with (at_builtin; go_must (refine Lib.wpList_append_own_string _ rfl _ _ 26 9 rfl B 5 i Tryd.underlying26 Tryd.underlying9 hi hz0 hz1 hz2 _ _ _ rfl HO.out _ rfl (by unfold maxLen; omega) (by omega) hbs ?_; rintro v' w' hown' hgr -; obtain ⟨A2, c2, rfl⟩ := row_slc hown'; have hb' := (hgr.block pb (blk_lt HB.out) (fun e => HN.out e.symm)).trans HB.out; have f1 := blk_frozen hb' 0; have d0 : w'.cell? ⟨pb, 0, none⟩ = some (.slice A l.length c) := blk_cell hb' 0; have HO' := Lib.hid hown'; have HG' := Lib.hid hgr; have HB' := Lib.hid hb'; clear hown' hgr hb'))
    go_ret
    have hgb : Below B W w' := Below.grown (Below.refl B W) HG'.out hbs (fun k hk => (HO.out.lt k hk).1)
    refine ⟨hgb.setCell (p := ⟨pb, 0, none⟩) hlow _, ⟨by have := HG'.out.size; simpa [World.setCell] using this, fun k o hk hp hc => (Below.heap_setCell _ _ _ k hp).trans ((HG'.out.block k (blk_lt hk) (fun e => by
      have e2 : some k = Value.ownBlock (.slice A l.length c) := e
      rcases HO.out.2 with ⟨hv, _⟩ | ⟨g, cap, cur, hv, _, hg, _⟩
      · rw [hv] at e2; cases e2
      · rw [hv] at e2
        simp only [Value.ownBlock, Option.some.injEq] at e2
        subst e2
        rw [hk] at hg
        cases hg
        exact hc _ _ rfl)).trans hk)⟩, .inl ⟨by omega, rfl, hlow, by rw [List.length_append]; omega, .slice A2 (l.length + t.size) c2, blk_set HB'.out 0 _, ?_⟩⟩
    have hown2 := HO'.out
    rw [strCells_by, ← hsz] at hown2
    rw [← hsz, List.length_append, show byV (l ++ t.data.toList) = byV l ++ byV t.data.toList by simp [byV]]
    refine ⟨hown2.1, ?_⟩
    rcases hown2.2 with hn | ⟨g, cap, cur, hv, hbg, hgc, r⟩
    · exact .inl hn
    · refine .inr ⟨g, cap, cur, hv, hbg, (Below.heap_setCell _ _ _ g (fun e => ?_)).trans hgc, r⟩
      have e' : g = pb := e
      rw [e', HB'.out] at hgc
      cases hgc
  · have hg : (262144 - (l.length : Int)) < (t.size : Int) := by omega
    go_enter Tryd.func32, Tryd.ntmps32
    go_wp2_with fail
    go_ret
    exact ⟨Below.refl _ _, Kept.refl _ _, .inr ⟨by omega, rfl, l, h⟩⟩

/-- A character as it stands in a string. -/
def hexL : List UInt8 := [48, 49, 50, 51, 52, 53, 54, 55, 56, 57, 97, 98, 99, 100, 101, 102]
def shownL (r : Nat) : List UInt8 :=
  if r = 34 then [92, 34] else if r = 92 then [92, 92] else if r = 8 then [92, 98] else if r = 12 then [92, 102] else if r = 10 then [92, 110] else if r = 13 then [92, 114] else if r = 9 then [92, 116]
  else if r < 32 then [92, 117, 48, 48, hexL.getD (r / 16) 0, hexL.getD (r % 16) 0] else Lib.encodeRune (r : Int)
set_option maxHeartbeats 4000000 in
set_option maxRecDepth 100000 in
theorem shown_low : ∀ r : Nat, r < 32 → ∀ w : World, Calls Tryd.prog 50 #[.int .i32 r] w fun e w' => e = .returned (.string ⟨(shownL r).toArray⟩) ∧ Below w.heap.size w w' := by
  intro r hr w
  have hs : Tryd.prog.underlying 5 = some (.int .u8) := Tryd.underlying5
  rcases (show r = 0 ∨ r = 1 ∨ r = 2 ∨ r = 3 ∨ r = 4 ∨ r = 5 ∨ r = 6 ∨ r = 7 ∨ r = 8 ∨ r = 9 ∨ r = 10 ∨ r = 11 ∨ r = 12 ∨ r = 13 ∨ r = 14 ∨ r = 15 ∨ r = 16 ∨ r = 17 ∨ r = 18 ∨ r = 19 ∨ r = 20 ∨ r = 21 ∨ r = 22 ∨ r = 23 ∨ r = 24 ∨ r = 25 ∨ r = 26 ∨ r = 27 ∨ r = 28 ∨ r = 29 ∨ r = 30 ∨ r = 31 by omega) with rfl | rfl | rfl | rfl | rfl | rfl | rfl | rfl | rfl | rfl | rfl | rfl | rfl | rfl | rfl | rfl | rfl | rfl | rfl | rfl | rfl | rfl | rfl | rfl | rfl | rfl | rfl | rfl | rfl | rfl | rfl | rfl
  · show Calls Tryd.prog 50 #[.int .i32 0] w _
    go_enter Tryd.func50, Tryd.ntmps50
    go_wp2_with fail
    have hbt : bits BinOp.and IntKind.i32 0 15 = 0 := by decide
    have he0 : Utf8.encode (((({ data := #[48, 49, 50, 51, 52, 53, 54, 55, 56, 57, 97, 98, 99, 100, 101, 102] } : ByteArray)[0]'(by decide)).toNat : Nat) : Int) = ⟨#[48]⟩ := by kernel_rfl
    go_region
    go_wp2_with fail
    go_ret
    exact ⟨by kernel_rfl, by go_grown⟩
  · show Calls Tryd.prog 50 #[.int .i32 1] w _
    go_enter Tryd.func50, Tryd.ntmps50
    go_wp2_with fail
    have hbt : bits BinOp.and IntKind.i32 1 15 = 1 := by decide
    have he0 : Utf8.encode (((({ data := #[48, 49, 50, 51, 52, 53, 54, 55, 56, 57, 97, 98, 99, 100, 101, 102] } : ByteArray)[0]'(by decide)).toNat : Nat) : Int) = ⟨#[48]⟩ := by kernel_rfl
    have he1 : Utf8.encode (((({ data := #[48, 49, 50, 51, 52, 53, 54, 55, 56, 57, 97, 98, 99, 100, 101, 102] } : ByteArray)[1]'(by decide)).toNat : Nat) : Int) = ⟨#[49]⟩ := by kernel_rfl
    go_region
    go_wp2_with fail
    go_ret
    exact ⟨by kernel_rfl, by go_grown⟩
  · show Calls Tryd.prog 50 #[.int .i32 2] w _
    go_enter Tryd.func50, Tryd.ntmps50
    go_wp2_with fail
    have hbt : bits BinOp.and IntKind.i32 2 15 = 2 := by decide
    have he0 : Utf8.encode (((({ data := #[48, 49, 50, 51, 52, 53, 54, 55, 56, 57, 97, 98, 99, 100, 101, 102] } : ByteArray)[0]'(by decide)).toNat : Nat) : Int) = ⟨#[48]⟩ := by kernel_rfl
    have he2 : Utf8.encode (((({ data := #[48, 49, 50, 51, 52, 53, 54, 55, 56, 57, 97, 98, 99, 100, 101, 102] } : ByteArray)[2]'(by decide)).toNat : Nat) : Int) = ⟨#[50]⟩ := by kernel_rfl
    go_region
    go_wp2_with fail
    go_ret
    exact ⟨by kernel_rfl, by go_grown⟩
  · show Calls Tryd.prog 50 #[.int .i32 3] w _
    go_enter Tryd.func50, Tryd.ntmps50
    go_wp2_with fail
    have hbt : bits BinOp.and IntKind.i32 3 15 = 3 := by decide
    have he0 : Utf8.encode (((({ data := #[48, 49, 50, 51, 52, 53, 54, 55, 56, 57, 97, 98, 99, 100, 101, 102] } : ByteArray)[0]'(by decide)).toNat : Nat) : Int) = ⟨#[48]⟩ := by kernel_rfl
    have he3 : Utf8.encode (((({ data := #[48, 49, 50, 51, 52, 53, 54, 55, 56, 57, 97, 98, 99, 100, 101, 102] } : ByteArray)[3]'(by decide)).toNat : Nat) : Int) = ⟨#[51]⟩ := by kernel_rfl
    go_region
    go_wp2_with fail
    go_ret
    exact ⟨by kernel_rfl, by go_grown⟩
  · show Calls Tryd.prog 50 #[.int .i32 4] w _
    go_enter Tryd.func50, Tryd.ntmps50
    go_wp2_with fail
    have hbt : bits BinOp.and IntKind.i32 4 15 = 4 := by decide
    have he0 : Utf8.encode (((({ data := #[48, 49, 50, 51, 52, 53, 54, 55, 56, 57, 97, 98, 99, 100, 101, 102] } : ByteArray)[0]'(by decide)).toNat : Nat) : Int) = ⟨#[48]⟩ := by kernel_rfl
    have he4 : Utf8.encode (((({ data := #[48, 49, 50, 51, 52, 53, 54, 55, 56, 57, 97, 98, 99, 100, 101, 102] } : ByteArray)[4]'(by decide)).toNat : Nat) : Int) = ⟨#[52]⟩ := by kernel_rfl
    go_region
    go_wp2_with fail
    go_ret
    exact ⟨by kernel_rfl, by go_grown⟩
  · show Calls Tryd.prog 50 #[.int .i32 5] w _
    go_enter Tryd.func50, Tryd.ntmps50
    go_wp2_with fail
    have hbt : bits BinOp.and IntKind.i32 5 15 = 5 := by decide
    have he0 : Utf8.encode (((({ data := #[48, 49, 50, 51, 52, 53, 54, 55, 56, 57, 97, 98, 99, 100, 101, 102] } : ByteArray)[0]'(by decide)).toNat : Nat) : Int) = ⟨#[48]⟩ := by kernel_rfl
    have he5 : Utf8.encode (((({ data := #[48, 49, 50, 51, 52, 53, 54, 55, 56, 57, 97, 98, 99, 100, 101, 102] } : ByteArray)[5]'(by decide)).toNat : Nat) : Int) = ⟨#[53]⟩ := by kernel_rfl
    go_region
    go_wp2_with fail
    go_ret
    exact ⟨by kernel_rfl, by go_grown⟩
  · show Calls Tryd.prog 50 #[.int .i32 6] w _
    go_enter Tryd.func50, Tryd.ntmps50
    go_wp2_with fail
    have hbt : bits BinOp.and IntKind.i32 6 15 = 6 := by decide
    have he0 : Utf8.encode (((({ data := #[48, 49, 50, 51, 52, 53, 54, 55, 56, 57, 97, 98, 99, 100, 101, 102] } : ByteArray)[0]'(by decide)).toNat : Nat) : Int) = ⟨#[48]⟩ := by kernel_rfl
    have he6 : Utf8.encode (((({ data := #[48, 49, 50, 51, 52, 53, 54, 55, 56, 57, 97, 98, 99, 100, 101, 102] } : ByteArray)[6]'(by decide)).toNat : Nat) : Int) = ⟨#[54]⟩ := by kernel_rfl
    go_region
    go_wp2_with fail
    go_ret
    exact ⟨by kernel_rfl, by go_grown⟩
  · show Calls Tryd.prog 50 #[.int .i32 7] w _
    go_enter Tryd.func50, Tryd.ntmps50
    go_wp2_with fail
    have hbt : bits BinOp.and IntKind.i32 7 15 = 7 := by decide
    have he0 : Utf8.encode (((({ data := #[48, 49, 50, 51, 52, 53, 54, 55, 56, 57, 97, 98, 99, 100, 101, 102] } : ByteArray)[0]'(by decide)).toNat : Nat) : Int) = ⟨#[48]⟩ := by kernel_rfl
    have he7 : Utf8.encode (((({ data := #[48, 49, 50, 51, 52, 53, 54, 55, 56, 57, 97, 98, 99, 100, 101, 102] } : ByteArray)[7]'(by decide)).toNat : Nat) : Int) = ⟨#[55]⟩ := by kernel_rfl
    go_region
    go_wp2_with fail
    go_ret
    exact ⟨by kernel_rfl, by go_grown⟩
  · show Calls Tryd.prog 50 #[.int .i32 8] w _
    go_enter Tryd.func50, Tryd.ntmps50
    go_wp2_with fail
    go_ret
    exact ⟨by kernel_rfl, by go_grown⟩
  · show Calls Tryd.prog 50 #[.int .i32 9] w _
    go_enter Tryd.func50, Tryd.ntmps50
    go_wp2_with fail
    go_ret
    exact ⟨by kernel_rfl, by go_grown⟩
  · show Calls Tryd.prog 50 #[.int .i32 10] w _
    go_enter Tryd.func50, Tryd.ntmps50
    go_wp2_with fail
    go_ret
    exact ⟨by kernel_rfl, by go_grown⟩
  · show Calls Tryd.prog 50 #[.int .i32 11] w _
    go_enter Tryd.func50, Tryd.ntmps50
    go_wp2_with fail
    have hbt : bits BinOp.and IntKind.i32 11 15 = 11 := by decide
    have he0 : Utf8.encode (((({ data := #[48, 49, 50, 51, 52, 53, 54, 55, 56, 57, 97, 98, 99, 100, 101, 102] } : ByteArray)[0]'(by decide)).toNat : Nat) : Int) = ⟨#[48]⟩ := by kernel_rfl
    have he11 : Utf8.encode (((({ data := #[48, 49, 50, 51, 52, 53, 54, 55, 56, 57, 97, 98, 99, 100, 101, 102] } : ByteArray)[11]'(by decide)).toNat : Nat) : Int) = ⟨#[98]⟩ := by kernel_rfl
    go_region
    go_wp2_with fail
    go_ret
    exact ⟨by kernel_rfl, by go_grown⟩
  · show Calls Tryd.prog 50 #[.int .i32 12] w _
    go_enter Tryd.func50, Tryd.ntmps50
    go_wp2_with fail
    go_ret
    exact ⟨by kernel_rfl, by go_grown⟩
  · show Calls Tryd.prog 50 #[.int .i32 13] w _
    go_enter Tryd.func50, Tryd.ntmps50
    go_wp2_with fail
    go_ret
    exact ⟨by kernel_rfl, by go_grown⟩
  · show Calls Tryd.prog 50 #[.int .i32 14] w _
    go_enter Tryd.func50, Tryd.ntmps50
    go_wp2_with fail
    have hbt : bits BinOp.and IntKind.i32 14 15 = 14 := by decide
    have he0 : Utf8.encode (((({ data := #[48, 49, 50, 51, 52, 53, 54, 55, 56, 57, 97, 98, 99, 100, 101, 102] } : ByteArray)[0]'(by decide)).toNat : Nat) : Int) = ⟨#[48]⟩ := by kernel_rfl
    have he14 : Utf8.encode (((({ data := #[48, 49, 50, 51, 52, 53, 54, 55, 56, 57, 97, 98, 99, 100, 101, 102] } : ByteArray)[14]'(by decide)).toNat : Nat) : Int) = ⟨#[101]⟩ := by kernel_rfl
    go_region
    go_wp2_with fail
    go_ret
    exact ⟨by kernel_rfl, by go_grown⟩
  · show Calls Tryd.prog 50 #[.int .i32 15] w _
    go_enter Tryd.func50, Tryd.ntmps50
    go_wp2_with fail
    have hbt : bits BinOp.and IntKind.i32 15 15 = 15 := by decide
    have he0 : Utf8.encode (((({ data := #[48, 49, 50, 51, 52, 53, 54, 55, 56, 57, 97, 98, 99, 100, 101, 102] } : ByteArray)[0]'(by decide)).toNat : Nat) : Int) = ⟨#[48]⟩ := by kernel_rfl
    have he15 : Utf8.encode (((({ data := #[48, 49, 50, 51, 52, 53, 54, 55, 56, 57, 97, 98, 99, 100, 101, 102] } : ByteArray)[15]'(by decide)).toNat : Nat) : Int) = ⟨#[102]⟩ := by kernel_rfl
    go_region
    go_wp2_with fail
    go_ret
    exact ⟨by kernel_rfl, by go_grown⟩
  · show Calls Tryd.prog 50 #[.int .i32 16] w _
    go_enter Tryd.func50, Tryd.ntmps50
    go_wp2_with fail
    have hbt : bits BinOp.and IntKind.i32 16 15 = 0 := by decide
    have he0 : Utf8.encode (((({ data := #[48, 49, 50, 51, 52, 53, 54, 55, 56, 57, 97, 98, 99, 100, 101, 102] } : ByteArray)[0]'(by decide)).toNat : Nat) : Int) = ⟨#[48]⟩ := by kernel_rfl
    have he1 : Utf8.encode (((({ data := #[48, 49, 50, 51, 52, 53, 54, 55, 56, 57, 97, 98, 99, 100, 101, 102] } : ByteArray)[1]'(by decide)).toNat : Nat) : Int) = ⟨#[49]⟩ := by kernel_rfl
    go_region
    go_wp2_with fail
    go_ret
    exact ⟨by kernel_rfl, by go_grown⟩
  · show Calls Tryd.prog 50 #[.int .i32 17] w _
    go_enter Tryd.func50, Tryd.ntmps50
    go_wp2_with fail
    have hbt : bits BinOp.and IntKind.i32 17 15 = 1 := by decide
    have he1 : Utf8.encode (((({ data := #[48, 49, 50, 51, 52, 53, 54, 55, 56, 57, 97, 98, 99, 100, 101, 102] } : ByteArray)[1]'(by decide)).toNat : Nat) : Int) = ⟨#[49]⟩ := by kernel_rfl
    go_region
    go_wp2_with fail
    go_ret
    exact ⟨by kernel_rfl, by go_grown⟩
  · show Calls Tryd.prog 50 #[.int .i32 18] w _
    go_enter Tryd.func50, Tryd.ntmps50
    go_wp2_with fail
    have hbt : bits BinOp.and IntKind.i32 18 15 = 2 := by decide
    have he1 : Utf8.encode (((({ data := #[48, 49, 50, 51, 52, 53, 54, 55, 56, 57, 97, 98, 99, 100, 101, 102] } : ByteArray)[1]'(by decide)).toNat : Nat) : Int) = ⟨#[49]⟩ := by kernel_rfl
    have he2 : Utf8.encode (((({ data := #[48, 49, 50, 51, 52, 53, 54, 55, 56, 57, 97, 98, 99, 100, 101, 102] } : ByteArray)[2]'(by decide)).toNat : Nat) : Int) = ⟨#[50]⟩ := by kernel_rfl
    go_region
    go_wp2_with fail
    go_ret
    exact ⟨by kernel_rfl, by go_grown⟩
  · show Calls Tryd.prog 50 #[.int .i32 19] w _
    go_enter Tryd.func50, Tryd.ntmps50
    go_wp2_with fail
    have hbt : bits BinOp.and IntKind.i32 19 15 = 3 := by decide
    have he1 : Utf8.encode (((({ data := #[48, 49, 50, 51, 52, 53, 54, 55, 56, 57, 97, 98, 99, 100, 101, 102] } : ByteArray)[1]'(by decide)).toNat : Nat) : Int) = ⟨#[49]⟩ := by kernel_rfl
    have he3 : Utf8.encode (((({ data := #[48, 49, 50, 51, 52, 53, 54, 55, 56, 57, 97, 98, 99, 100, 101, 102] } : ByteArray)[3]'(by decide)).toNat : Nat) : Int) = ⟨#[51]⟩ := by kernel_rfl
    go_region
    go_wp2_with fail
    go_ret
    exact ⟨by kernel_rfl, by go_grown⟩
  · show Calls Tryd.prog 50 #[.int .i32 20] w _
    go_enter Tryd.func50, Tryd.ntmps50
    go_wp2_with fail
    have hbt : bits BinOp.and IntKind.i32 20 15 = 4 := by decide
    have he1 : Utf8.encode (((({ data := #[48, 49, 50, 51, 52, 53, 54, 55, 56, 57, 97, 98, 99, 100, 101, 102] } : ByteArray)[1]'(by decide)).toNat : Nat) : Int) = ⟨#[49]⟩ := by kernel_rfl
    have he4 : Utf8.encode (((({ data := #[48, 49, 50, 51, 52, 53, 54, 55, 56, 57, 97, 98, 99, 100, 101, 102] } : ByteArray)[4]'(by decide)).toNat : Nat) : Int) = ⟨#[52]⟩ := by kernel_rfl
    go_region
    go_wp2_with fail
    go_ret
    exact ⟨by kernel_rfl, by go_grown⟩
  · show Calls Tryd.prog 50 #[.int .i32 21] w _
    go_enter Tryd.func50, Tryd.ntmps50
    go_wp2_with fail
    have hbt : bits BinOp.and IntKind.i32 21 15 = 5 := by decide
    have he1 : Utf8.encode (((({ data := #[48, 49, 50, 51, 52, 53, 54, 55, 56, 57, 97, 98, 99, 100, 101, 102] } : ByteArray)[1]'(by decide)).toNat : Nat) : Int) = ⟨#[49]⟩ := by kernel_rfl
    have he5 : Utf8.encode (((({ data := #[48, 49, 50, 51, 52, 53, 54, 55, 56, 57, 97, 98, 99, 100, 101, 102] } : ByteArray)[5]'(by decide)).toNat : Nat) : Int) = ⟨#[53]⟩ := by kernel_rfl
    go_region
    go_wp2_with fail
    go_ret
    exact ⟨by kernel_rfl, by go_grown⟩
  · show Calls Tryd.prog 50 #[.int .i32 22] w _
    go_enter Tryd.func50, Tryd.ntmps50
    go_wp2_with fail
    have hbt : bits BinOp.and IntKind.i32 22 15 = 6 := by decide
    have he1 : Utf8.encode (((({ data := #[48, 49, 50, 51, 52, 53, 54, 55, 56, 57, 97, 98, 99, 100, 101, 102] } : ByteArray)[1]'(by decide)).toNat : Nat) : Int) = ⟨#[49]⟩ := by kernel_rfl
    have he6 : Utf8.encode (((({ data := #[48, 49, 50, 51, 52, 53, 54, 55, 56, 57, 97, 98, 99, 100, 101, 102] } : ByteArray)[6]'(by decide)).toNat : Nat) : Int) = ⟨#[54]⟩ := by kernel_rfl
    go_region
    go_wp2_with fail
    go_ret
    exact ⟨by kernel_rfl, by go_grown⟩
  · show Calls Tryd.prog 50 #[.int .i32 23] w _
    go_enter Tryd.func50, Tryd.ntmps50
    go_wp2_with fail
    have hbt : bits BinOp.and IntKind.i32 23 15 = 7 := by decide
    have he1 : Utf8.encode (((({ data := #[48, 49, 50, 51, 52, 53, 54, 55, 56, 57, 97, 98, 99, 100, 101, 102] } : ByteArray)[1]'(by decide)).toNat : Nat) : Int) = ⟨#[49]⟩ := by kernel_rfl
    have he7 : Utf8.encode (((({ data := #[48, 49, 50, 51, 52, 53, 54, 55, 56, 57, 97, 98, 99, 100, 101, 102] } : ByteArray)[7]'(by decide)).toNat : Nat) : Int) = ⟨#[55]⟩ := by kernel_rfl
    go_region
    go_wp2_with fail
    go_ret
    exact ⟨by kernel_rfl, by go_grown⟩
  · show Calls Tryd.prog 50 #[.int .i32 24] w _
    go_enter Tryd.func50, Tryd.ntmps50
    go_wp2_with fail
    have hbt : bits BinOp.and IntKind.i32 24 15 = 8 := by decide
    have he1 : Utf8.encode (((({ data := #[48, 49, 50, 51, 52, 53, 54, 55, 56, 57, 97, 98, 99, 100, 101, 102] } : ByteArray)[1]'(by decide)).toNat : Nat) : Int) = ⟨#[49]⟩ := by kernel_rfl
    have he8 : Utf8.encode (((({ data := #[48, 49, 50, 51, 52, 53, 54, 55, 56, 57, 97, 98, 99, 100, 101, 102] } : ByteArray)[8]'(by decide)).toNat : Nat) : Int) = ⟨#[56]⟩ := by kernel_rfl
    go_region
    go_wp2_with fail
    go_ret
    exact ⟨by kernel_rfl, by go_grown⟩
  · show Calls Tryd.prog 50 #[.int .i32 25] w _
    go_enter Tryd.func50, Tryd.ntmps50
    go_wp2_with fail
    have hbt : bits BinOp.and IntKind.i32 25 15 = 9 := by decide
    have he1 : Utf8.encode (((({ data := #[48, 49, 50, 51, 52, 53, 54, 55, 56, 57, 97, 98, 99, 100, 101, 102] } : ByteArray)[1]'(by decide)).toNat : Nat) : Int) = ⟨#[49]⟩ := by kernel_rfl
    have he9 : Utf8.encode (((({ data := #[48, 49, 50, 51, 52, 53, 54, 55, 56, 57, 97, 98, 99, 100, 101, 102] } : ByteArray)[9]'(by decide)).toNat : Nat) : Int) = ⟨#[57]⟩ := by kernel_rfl
    go_region
    go_wp2_with fail
    go_ret
    exact ⟨by kernel_rfl, by go_grown⟩
  · show Calls Tryd.prog 50 #[.int .i32 26] w _
    go_enter Tryd.func50, Tryd.ntmps50
    go_wp2_with fail
    have hbt : bits BinOp.and IntKind.i32 26 15 = 10 := by decide
    have he1 : Utf8.encode (((({ data := #[48, 49, 50, 51, 52, 53, 54, 55, 56, 57, 97, 98, 99, 100, 101, 102] } : ByteArray)[1]'(by decide)).toNat : Nat) : Int) = ⟨#[49]⟩ := by kernel_rfl
    have he10 : Utf8.encode (((({ data := #[48, 49, 50, 51, 52, 53, 54, 55, 56, 57, 97, 98, 99, 100, 101, 102] } : ByteArray)[10]'(by decide)).toNat : Nat) : Int) = ⟨#[97]⟩ := by kernel_rfl
    go_region
    go_wp2_with fail
    go_ret
    exact ⟨by kernel_rfl, by go_grown⟩
  · show Calls Tryd.prog 50 #[.int .i32 27] w _
    go_enter Tryd.func50, Tryd.ntmps50
    go_wp2_with fail
    have hbt : bits BinOp.and IntKind.i32 27 15 = 11 := by decide
    have he1 : Utf8.encode (((({ data := #[48, 49, 50, 51, 52, 53, 54, 55, 56, 57, 97, 98, 99, 100, 101, 102] } : ByteArray)[1]'(by decide)).toNat : Nat) : Int) = ⟨#[49]⟩ := by kernel_rfl
    have he11 : Utf8.encode (((({ data := #[48, 49, 50, 51, 52, 53, 54, 55, 56, 57, 97, 98, 99, 100, 101, 102] } : ByteArray)[11]'(by decide)).toNat : Nat) : Int) = ⟨#[98]⟩ := by kernel_rfl
    go_region
    go_wp2_with fail
    go_ret
    exact ⟨by kernel_rfl, by go_grown⟩
  · show Calls Tryd.prog 50 #[.int .i32 28] w _
    go_enter Tryd.func50, Tryd.ntmps50
    go_wp2_with fail
    have hbt : bits BinOp.and IntKind.i32 28 15 = 12 := by decide
    have he1 : Utf8.encode (((({ data := #[48, 49, 50, 51, 52, 53, 54, 55, 56, 57, 97, 98, 99, 100, 101, 102] } : ByteArray)[1]'(by decide)).toNat : Nat) : Int) = ⟨#[49]⟩ := by kernel_rfl
    have he12 : Utf8.encode (((({ data := #[48, 49, 50, 51, 52, 53, 54, 55, 56, 57, 97, 98, 99, 100, 101, 102] } : ByteArray)[12]'(by decide)).toNat : Nat) : Int) = ⟨#[99]⟩ := by kernel_rfl
    go_region
    go_wp2_with fail
    go_ret
    exact ⟨by kernel_rfl, by go_grown⟩
  · show Calls Tryd.prog 50 #[.int .i32 29] w _
    go_enter Tryd.func50, Tryd.ntmps50
    go_wp2_with fail
    have hbt : bits BinOp.and IntKind.i32 29 15 = 13 := by decide
    have he1 : Utf8.encode (((({ data := #[48, 49, 50, 51, 52, 53, 54, 55, 56, 57, 97, 98, 99, 100, 101, 102] } : ByteArray)[1]'(by decide)).toNat : Nat) : Int) = ⟨#[49]⟩ := by kernel_rfl
    have he13 : Utf8.encode (((({ data := #[48, 49, 50, 51, 52, 53, 54, 55, 56, 57, 97, 98, 99, 100, 101, 102] } : ByteArray)[13]'(by decide)).toNat : Nat) : Int) = ⟨#[100]⟩ := by kernel_rfl
    go_region
    go_wp2_with fail
    go_ret
    exact ⟨by kernel_rfl, by go_grown⟩
  · show Calls Tryd.prog 50 #[.int .i32 30] w _
    go_enter Tryd.func50, Tryd.ntmps50
    go_wp2_with fail
    have hbt : bits BinOp.and IntKind.i32 30 15 = 14 := by decide
    have he1 : Utf8.encode (((({ data := #[48, 49, 50, 51, 52, 53, 54, 55, 56, 57, 97, 98, 99, 100, 101, 102] } : ByteArray)[1]'(by decide)).toNat : Nat) : Int) = ⟨#[49]⟩ := by kernel_rfl
    have he14 : Utf8.encode (((({ data := #[48, 49, 50, 51, 52, 53, 54, 55, 56, 57, 97, 98, 99, 100, 101, 102] } : ByteArray)[14]'(by decide)).toNat : Nat) : Int) = ⟨#[101]⟩ := by kernel_rfl
    go_region
    go_wp2_with fail
    go_ret
    exact ⟨by kernel_rfl, by go_grown⟩
  · show Calls Tryd.prog 50 #[.int .i32 31] w _
    go_enter Tryd.func50, Tryd.ntmps50
    go_wp2_with fail
    have hbt : bits BinOp.and IntKind.i32 31 15 = 15 := by decide
    have he1 : Utf8.encode (((({ data := #[48, 49, 50, 51, 52, 53, 54, 55, 56, 57, 97, 98, 99, 100, 101, 102] } : ByteArray)[1]'(by decide)).toNat : Nat) : Int) = ⟨#[49]⟩ := by kernel_rfl
    have he15 : Utf8.encode (((({ data := #[48, 49, 50, 51, 52, 53, 54, 55, 56, 57, 97, 98, 99, 100, 101, 102] } : ByteArray)[15]'(by decide)).toNat : Nat) : Int) = ⟨#[102]⟩ := by kernel_rfl
    go_region
    go_wp2_with fail
    go_ret
    exact ⟨by kernel_rfl, by go_grown⟩

theorem enc_rune (r : Nat) : Utf8.encode (r : Int) = ⟨(Lib.encodeRune (r : Int)).toArray⟩ := by
  have h := Go.Extern.FmtText.encode_eq r
  have h2 : (Utf8.encode (r : Int)).data.toList = Lib.encodeRune (r : Int) := by
    have hid : ∀ L : List UInt8, (L.map fun x => ((x.toNat : Nat) : Int)).map (fun x => x.toNat.toUInt8) = L := by
      intro L
      induction L with
      | nil => rfl
      | cons a t ih => simp only [List.map_cons, ih]; simp
    unfold Lib.encodeRune
    rw [← h]
    exact (hid _).symm
  rw [← h2, Lib.mk_data]
set_option maxHeartbeats 4000000 in
set_option maxRecDepth 100000 in
theorem shown_any (r : Nat) (w : World) : Calls Tryd.prog 50 #[.int .i32 r] w fun e w' => e = .returned (.string ⟨(shownL r).toArray⟩) ∧ Below w.heap.size w w' := by
  by_cases h32 : r < 32
  · exact shown_low r h32 w
  by_cases h34 : r = 34
  · subst h34
    show Calls Tryd.prog 50 #[.int .i32 34] w _
    go_enter Tryd.func50, Tryd.ntmps50
    go_wp2_with fail
    go_ret
    exact ⟨by kernel_rfl, by go_grown⟩
  by_cases h92 : r = 92
  · subst h92
    show Calls Tryd.prog 50 #[.int .i32 92] w _
    go_enter Tryd.func50, Tryd.ntmps50
    go_wp2_with fail
    go_ret
    exact ⟨by kernel_rfl, by go_grown⟩
  have hr : shownL r = Lib.encodeRune (r : Int) := by
    unfold shownL
    rw [if_neg h34, if_neg h92, if_neg (by omega), if_neg (by omega), if_neg (by omega), if_neg (by omega), if_neg (by omega), if_neg h32]
  have hcv : (convert 21 9 (.int .i32 (r : Int))).run Tryd.prog w = .ok (.string ⟨(shownL r).toArray⟩) w := by
    rw [hr, ← enc_rune]; exact run_convert_int_string w 21 9 .i32 r (by kernel_rfl) Tryd.underlying9
  have e1 : ((r : Int) == 34) = false := by rw [beq_eq_false_iff_ne]; omega
  have e2 : ((r : Int) == 92) = false := by rw [beq_eq_false_iff_ne]; omega
  have e3 : ((r : Int) == 8) = false := by rw [beq_eq_false_iff_ne]; omega
  have e4 : ((r : Int) == 12) = false := by rw [beq_eq_false_iff_ne]; omega
  have e5 : ((r : Int) == 10) = false := by rw [beq_eq_false_iff_ne]; omega
  have e6 : ((r : Int) == 13) = false := by rw [beq_eq_false_iff_ne]; omega
  have e7 : ((r : Int) == 9) = false := by rw [beq_eq_false_iff_ne]; omega
  have e8 : ¬ (r : Int) < 32 := by omega
  clear hr
  go_enter Tryd.func50, Tryd.ntmps50
  go_wp2_with fail
  go_ret
  exact ⟨rfl, by go_grown⟩

/-- The characters of a string from a place on, as they are shown. -/
def shownFrom (s : ByteArray) : Nat → Nat → List UInt8
  | 0, _ => []
  | f + 1, pos => if pos < s.size then shownL (Utf8.decode s pos).1 ++ shownFrom s f (pos + (Utf8.decode s pos).2) else []
def quotedL (s : ByteArray) : List UInt8 := 34 :: (shownFrom s (s.size + 1) 0 ++ [34])
theorem PR.iterAt {B pb : Nat} {w : World} {l : List UInt8} (h : PR B w pb l) {k : Nat} {s : ByteArray} {pos : Nat} (hk : w.heap[k]? = some (.stringIter s pos)) (p' : Nat) : PR B (w.iterAt k s p') pb l := by
  obtain ⟨v, hb, hown⟩ := h.own
  refine ⟨h.low, h.fits, v, (Lib.iterAt_other w k pb s p' (fun e => by rw [e, hk] at hb; cases hb)).trans hb, hown.1, ?_⟩
  rcases hown.2 with hn | ⟨g, cap, cur, hv, hbg, hg, r⟩
  · exact .inl hn
  · exact .inr ⟨g, cap, cur, hv, hbg, (Lib.iterAt_other w k g s p' (fun e => by rw [e, hk] at hg; cases hg)).trans hg, r⟩
theorem PR.on {B pb : Nat} {w w' : World} {l : List UInt8} (h : PR B w pb l) (hb : Below w.heap.size w w') : PR B w' pb l := by
  obtain ⟨v, hbk, hown⟩ := h.own
  refine ⟨h.low, h.fits, v, (hb.block pb (blk_lt hbk)).trans hbk, hown.1, ?_⟩
  rcases hown.2 with hn | ⟨g, cap, cur, hv, hbg, hg, r⟩
  · exact .inl hn
  · exact .inr ⟨g, cap, cur, hv, hbg, (hb.block g (blk_lt hg)).trans hg, r⟩

set_option maxHeartbeats 4000000 in
set_option maxRecDepth 100000 in
theorem quoted_any {B : Nat} {W : World} {pb : Nat} {l : List UInt8} (h : PR B W pb l) (s : ByteArray) :
    Calls Tryd.prog 33 #[.pointer (some ⟨pb, 0, none⟩), .string s] W (OutA B pb l (quotedL s) W) := by
  have HA := Lib.hid (fun W l (h : PR B W pb l) t => add_any (B := B) (W := W) (pb := pb) (l := l) h t)
  have HS := Lib.hid shown_any
  have H0 := Lib.hid h
  have hq : (quotedL s).length = (shownFrom s (s.size + 1) 0).length + 2 := by simp [quotedL]
  have HQ := Lib.hid hq
  clear h hq
  go_enter Tryd.func33, Tryd.ntmps33
  go_wp2_with fail
  go_at_call 32
  refine (HA.out _ _ H0.out ⟨#[34]⟩).mono ?_
  rintro e' w1 ⟨hB1, hK1, ⟨hr, rfl, hP1⟩ | ⟨hr, rfl, l', hP1⟩⟩
  · have HB1 := Lib.hid hB1
    have HK1 := Lib.hid hK1
    have HP1 := Lib.hid hP1
    clear hB1 hK1 hP1 hr
    go_wp2_with fail
    obtain ⟨it, hit⟩ : ∃ it, it = w1.heap.size := ⟨_, rfl⟩
    have hih : (w1.iter s 0).heap[w1.heap.size]? = some (.stringIter s 0) := World.iter_heap w1 s 0
    have hib := Joins.below_alloc1 w1 (.stringIter s 0)
    have hbs : B ≤ w1.heap.size := by
      obtain ⟨v, hb, _⟩ := HP1.out.own
      exact Nat.le_trans HP1.out.low (Nat.le_of_lt (blk_lt hb))
    have HB2 : Hid (Below B W (w1.iter s 0)) := HB1.out.alloc (Nat.le_trans (by
      obtain ⟨v, hb, _⟩ := H0.out.own
      exact Nat.le_trans H0.out.low (Nat.le_of_lt (blk_lt hb))) HB1.out.size |> fun _ => hbs) _
    have HK2 : Hid (Kept pb W (w1.iter s 0)) := HK1.out.trans (Kept.below hib)
    have HP2 : Hid (PR B (w1.iter s 0) pb (l ++ [34])) := HP1.out.on hib
    obtain ⟨T, hT⟩ : ∃ T, T = l ++ [34] ++ shownFrom s (s.size + 1) 0 := ⟨_, rfl⟩
    have HT := Lib.hid hT
    have HIH := Lib.hid hih
    have HBS := Lib.hid hbs
    clear hT hib hih hbs
    rw [← hit] at HIH HBS ⊢
    have hit2 : pb < it := by
      obtain ⟨v, hb, _⟩ := HP1.out.own
      rw [hit]; exact blk_lt hb
    have HITW : Hid (W.heap.size ≤ it) := by show W.heap.size ≤ it; rw [hit]; exact HK1.out.1
    clear hit
    generalize w1.iter s 0 = w2 at *
    go_loopw [] (fun wr => ∃ (f pos : Nat) (l' : List UInt8), wr.heap[it]? = some (.stringIter s pos) ∧ s.size < f + pos ∧ Hid (PR B wr pb l') ∧ Hid (l' ++ shownFrom s f pos = T) ∧ Hid (Below B W wr) ∧ Hid (Kept pb W wr)) (fun wr => s.size - wr.iterPos it)
    case atStart => exact ⟨s.size + 1, 0, l ++ [34], HIH.out, by omega, HP2.out, HT.out.symm, HB2.out, HK2.out⟩
    case round =>
      obtain ⟨f, pos, l', hi, hf, HP, HL, HB, HK⟩ := hrel
      by_cases hp : pos < s.size
      · obtain ⟨f', rfl⟩ : ∃ f', f = f' + 1 := ⟨f - 1, by omega⟩
        have hnx : ∀ ty, (Instr.next (.pointer (some ⟨it, 0, none⟩)) true ty).run Tryd.prog wr = _ := fun ty => Lib.run_next_any_at wr it s pos ty hi hp
        have hge := Lib.width_pos s pos
        have hi2 := Lib.iterAt_heap wr it s pos (pos + (Utf8.decode s pos).2) hi
        have hitl : it < wr.heap.size := blk_lt hi
        have HP3 := Lib.hid (HP.out.iterAt hi (pos + (Utf8.decode s pos).2))
        have HB3 := Lib.hid (Lib.below_iterAt HB.out HBS.out s (pos + (Utf8.decode s pos).2))
        have HK3 : Hid (Kept pb W (wr.iterAt it s (pos + (Utf8.decode s pos).2))) := ⟨by rw [Lib.iterAt_size]; exact HK.out.1, fun k o hk hpk hc => by
          have hkl : k ≠ it := fun e => by
            have := HITW.out
            have := blk_lt hk
            omega
          rw [Lib.iterAt_other _ _ _ _ _ hkl]
          exact HK.out.2 k o hk hpk hc⟩
        have HL3 : Hid (l' ++ (shownL (Utf8.decode s pos).1 ++ shownFrom s f' (pos + (Utf8.decode s pos).2)) = T) := by
          have := HL.out
          unfold shownFrom at this
          rw [if_pos hp] at this
          exact this
        have HI2 := Lib.hid hi2
        clear HP HB HK HL hi2
        go_wp2_with (go_at_call 50; (with_reducible refine (HS.out _ _).mono ?_); rintro e' w3 ⟨rfl, hb3⟩; have HW3 := Lib.hid hb3; clear hb3)
        generalize (wr.iterAt it s (pos + (Utf8.decode s pos).2)) = w4 at *
        go_at_call 32
        refine (HA.out _ _ (HP3.out.on HW3.out) ⟨(shownL (Utf8.decode s pos).1).toArray⟩).mono ?_
        rintro e' w5 ⟨hB5, hK5, ⟨hr, rfl, hP5⟩ | ⟨hr, rfl, l5, hP5⟩⟩
        · have hb4 : Below B w4 w3 := HW3.out.mono (Nat.le_trans HBS.out (Nat.le_of_lt (blk_lt HI2.out)))
          have hi3 := (HW3.out.block it (blk_lt HI2.out)).trans HI2.out
          have hi5 := hK5.2 it _ hi3 (by omega) (fun _ _ e => by cases e)
          have HI5 := Lib.hid hi5
          have HB5 := Lib.hid (HB3.out.trans (hb4.trans hB5))
          have HK5 := Lib.hid (HK3.out.trans ((Kept.below HW3.out).trans hK5))
          have HP5 := Lib.hid hP5
          have HI := Lib.hid hi
          clear hb4 hi3 hi5 hB5 hK5 hP5 hr
          go_wp2_with fail
          refine ⟨⟨f', pos + (Utf8.decode s pos).2, l' ++ shownL (Utf8.decode s pos).1, HI5.out, by omega, HP5.out, ?_, HB5.out, HK5.out⟩, ?_⟩
          · show _ ++ _ = T
            rw [List.append_assoc]; exact HL3.out
          · have e1 : w5.iterPos it = pos + (Utf8.decode s pos).2 := by unfold World.iterPos; rw [HI5.out]
            have e2 : wr.iterPos it = pos := by unfold World.iterPos; rw [HI.out]
            rw [e1, e2]
            omega
        · have hb4 : Below B w4 w3 := HW3.out.mono (Nat.le_trans HBS.out (Nat.le_of_lt (blk_lt HI2.out)))
          go_wp2_with fail
          go_ret
          refine ⟨HB3.out.trans (hb4.trans hB5), HK3.out.trans ((Kept.below HW3.out).trans hK5), .inr ⟨?_, rfl, l5, hP5⟩⟩
          have h1 := congrArg List.length HL3.out
          have h2 := congrArg List.length HT.out
          rw [HQ.out]
          simp only [List.length_append, List.length_cons, List.length_nil] at h1 h2
          have hr2 : 262144 < l'.length + (shownL (Utf8.decode s pos).1).length := hr
          omega
      · have hnx : ∀ ty, (Instr.next (.pointer (some ⟨it, 0, none⟩)) true ty).run Tryd.prog wr = _ := fun ty => Lib.run_next_end_at wr it s pos ty hi hp
        have hT2 : l' = T := by
          have := HL.out
          cases f with
          | zero => unfold shownFrom at this; rw [List.append_nil] at this; exact this
          | succ f => unfold shownFrom at this; rw [if_neg hp, List.append_nil] at this; exact this
        have HL4 := Lib.hid hT2
        clear HL
        go_wp2_with fail
        go_at_call 32
        refine (HA.out _ _ HP.out ⟨#[34]⟩).mono ?_
        rintro e' w5 ⟨hB5, hK5, ⟨hr, rfl, hP5⟩ | ⟨hr, rfl, l5, hP5⟩⟩
        · go_wp2_with fail
          go_ret
          refine ⟨HB.out.trans hB5, HK.out.trans hK5, .inl ⟨?_, rfl, ?_⟩⟩
          · rw [HL4.out, HT.out] at hr
            rw [HQ.out]
            simp at hr
            omega
          · rw [HL4.out, HT.out] at hP5
            have e : l ++ quotedL s = l ++ [34] ++ shownFrom s (s.size + 1) 0 ++ [34] := by simp [quotedL]
            rw [e]; exact hP5
        · go_wp2_with fail
          go_ret
          refine ⟨HB.out.trans hB5, HK.out.trans hK5, .inr ⟨?_, rfl, l5, hP5⟩⟩
          rw [HL4.out, HT.out] at hr
          rw [HQ.out]
          simp at hr
          omega
  · have HB1 := Lib.hid hB1
    have HK1 := Lib.hid hK1
    go_wp2_with fail
    go_ret
    refine ⟨HB1.out, HK1.out, .inr ⟨?_, rfl, l', hP1⟩⟩
    rw [HQ.out]
    simp at hr
    omega
end Go.Proofs.YtmjooghfghmngaaDoor
