/- Print of a string. -/
import Derived.Test.YtmjooghfghmngaaDoorJPrn
import Derived.Test.YtmjooghfghmngaaDoorShelfV
import Derived.Lib.ValidLaws
namespace Go.Proofs.YtmjooghfghmngaaDoor
open Go.RowKit Go.Shelf Go.Lib

theorem valid_any (s : ByteArray) {w : World} (hE : Env w) (hs : s.size ≤ 9223372036854775807) :
    Calls Tryd.prog 30 #[.string s] w fun e w' => e = .returned (.bool (Lib.validD s.data.toList)) ∧ Below w.heap.size w w' :=
  Any.utf8_ValidString Tryd.layVS s w hs hE.1
set_option maxHeartbeats 1000000 in
set_option maxRecDepth 100000 in
theorem single_any (k : Int) (t : ByteArray) (A B : Option Addr) (c d : Nat) (w : World) :
    Calls Tryd.prog 28 #[.agg #[.int .i64 k, .string t, .slice A 0 c, .slice B 0 d]] w fun e w' => e = .returned (.bool true) ∧ Below w.heap.size w w' := by
  go_enter Tryd.func28, Tryd.ntmps28
  go_wp2_with fail
  go_ret
  exact ⟨rfl, by go_grown⟩
set_option maxHeartbeats 1000000 in
set_option maxRecDepth 100000 in
theorem sound_str (t : ByteArray) (A B : Option Addr) (c d : Nat) {w : World} (hE : Env w) (ht : t.size ≤ 9223372036854775807) (n : Int) :
    Calls Tryd.prog 17 #[.agg #[.int .i64 5, .string t, .slice A 0 c, .slice B 0 d], .int .i64 n] w fun e w' => e = .returned (.bool (Lib.validD t.data.toList)) ∧ Below w.heap.size w w' := by
  obtain ⟨v, hv⟩ : ∃ v, v = Lib.validD t.data.toList := ⟨_, rfl⟩
  rw [← hv]
  have hB1 : Below w.heap.size w (w.alloc (Obj.cells #[.int .i64 5, .string t, .slice A 0 c, .slice B 0 d] 25)) := by go_grown
  have hV := valid_any t (hE.on hB1) ht
  rw [← hv] at hV
  have h0 := heap_alloc_new w (Obj.cells #[.int .i64 5, .string t, .slice A 0 c, .slice B 0 d] 25)
  have HV := Lib.hid hV
  have HB1 := Lib.hid hB1
  have HX := Lib.hid (fun W (hb : Below (w.alloc (Obj.cells #[.int .i64 5, .string t, .slice A 0 c, .slice B 0 d] 25)).heap.size (w.alloc (Obj.cells #[.int .i64 5, .string t, .slice A 0 c, .slice B 0 d] 25)) W) => (hb.block _ (blk_lt h0)).trans h0)
  have HS := Lib.hid (fun W => single_any 5 t A B c d W)
  clear hV hB1 hE h0 hv
  cases v with
  | true =>
    go_enter Tryd.func17, Tryd.ntmps17
    go_wp2_with (first
      | (go_at_call 30; (with_reducible refine HV.out.mono ?_); rintro e' w2 ⟨rfl, hb2⟩; have hbk := HX.out _ hb2; have q0 : w2.cell? ⟨w.heap.size, 0, none⟩ = some (.int .i64 5) := blk_cell hbk 0; have q1 : w2.cell? ⟨w.heap.size, 1, none⟩ = some (.string t) := blk_cell hbk 1; have q2 : w2.cell? ⟨w.heap.size, 2, none⟩ = some (.slice A 0 c) := blk_cell hbk 2; have q3 : w2.cell? ⟨w.heap.size, 3, none⟩ = some (.slice B 0 d) := blk_cell hbk 3; have HB2 := Lib.hid (HB1.out.trans (hb2.mono HB1.out.size)); clear hb2 hbk)
      | (go_at_call 28; (with_reducible refine (HS.out _).mono ?_); rintro e' w3 ⟨rfl, hb3⟩; have HB3 := Lib.hid (HB2.out.trans (hb3.mono HB2.out.size)); clear hb3))
    go_ret
    exact ⟨rfl, HB3.out⟩
  | false =>
    go_enter Tryd.func17, Tryd.ntmps17
    go_wp2_with (go_at_call 30; (with_reducible refine HV.out.mono ?_); rintro e' w2 ⟨rfl, hb2⟩; have HB2 := Lib.hid (HB1.out.trans (hb2.mono HB1.out.size)); clear hb2)
    go_ret
    exact ⟨rfl, HB2.out⟩
set_option maxHeartbeats 1000000 in
set_option maxRecDepth 100000 in
theorem value_str {B : Nat} {W : World} {pb : Nat} {l : List UInt8} (h : PR B W pb l) (t : ByteArray) (A A' : Option Addr) (c d : Nat) :
    Calls Tryd.prog 18 #[.pointer (some ⟨pb, 0, none⟩), .agg #[.int .i64 5, .string t, .slice A 0 c, .slice A' 0 d]] W (OutA B pb l (quotedL t) W) := by
  have hbs : B ≤ W.heap.size := by
    obtain ⟨v, hb, _⟩ := h.own
    exact Nat.le_trans h.low (Nat.le_of_lt (blk_lt hb))
  have hb := Joins.below_alloc1 W (Obj.cells #[.int .i64 5, .string t, .slice A 0 c, .slice A' 0 d] 25)
  have HQ := Lib.hid (quoted_any (h.on hb) t)
  have HB := Lib.hid hb
  have HBS := Lib.hid hbs
  clear h hb hbs
  go_enter Tryd.func18, Tryd.ntmps18
  go_wp2_with fail
  go_at_call 33
  refine HQ.out.mono ?_
  rintro e' w1 ⟨hB1, hK1, ⟨hr, rfl, hP1⟩ | ⟨hr, rfl, l', hP1⟩⟩
  · have HB1 := Lib.hid hB1
    have HK1 := Lib.hid hK1
    have HP1 := Lib.hid hP1
    clear hB1 hK1 hP1
    go_wp2_with fail
    go_ret
    exact ⟨(HB.out.mono HBS.out).trans HB1.out, (Kept.below HB.out).trans HK1.out, .inl ⟨hr, rfl, HP1.out⟩⟩
  · have HB1 := Lib.hid hB1
    have HK1 := Lib.hid hK1
    have HP1 := Lib.hid hP1
    clear hB1 hK1 hP1
    go_wp2_with fail
    go_ret
    exact ⟨(HB.out.mono HBS.out).trans HB1.out, (Kept.below HB.out).trans HK1.out, .inr ⟨hr, rfl, l', HP1.out⟩⟩

theorem PR.new {w : World} : PR w.heap.size (w.alloc (Obj.cells #[.slice none 0 0] 45 (0, 0))) w.heap.size [] :=
  ⟨Nat.le_refl _, by simp, _, heap_alloc_new w _, World.ownsRow_nil _ _ _ _⟩
theorem PR.at {B : Nat} {W : World} {pb : Nat} {l : List UInt8} (h : PR B W pb l) : ∃ A c, W.cell? ⟨pb, 0, none⟩ = some (.slice A l.length c) ∧ Lib.BytesAt W A l.length l ∧ (∀ ad, A = some ad → ad.block < W.heap.size) ∧ l.length ≤ c ∧ c ≤ maxLen := by
  obtain ⟨v, hb, hown⟩ := h.own
  rcases hown.2 with ⟨rfl, h0⟩ | ⟨g, cap, cur, rfl, hg0, hg, hn, hm, hs, ht⟩
  · refine ⟨none, 0, ?_, fun h1 => absurd h1 (by omega), fun ad e => (by cases e), by omega, by unfold maxLen; omega⟩
    rw [h0]; exact blk_cell hb 0
  · refine ⟨_, cap, blk_cell hb 0, fun h0 => ⟨g, 0, rfl, fun i hi => ?_⟩, fun ad e => (by cases e; exact blk_lt hg), hn, hm⟩
    rw [Nat.zero_add, blk_cell hg i, ← Array.getElem?_toList]
    have := congrArg (·[i]?) ht
    simp only [List.getElem?_take, Nat.mul_one, hi, if_true] at this
    rw [this]
    simp [byV, List.getD_eq_getElem?_getD, List.getElem?_eq_getElem hi]
set_option maxHeartbeats 1000000 in
set_option maxRecDepth 100000 in
theorem print_no (t : ByteArray) (A B : Option Addr) (c d : Nat) {w : World} (hE : Env w) (ht : t.size ≤ 9223372036854775807) (hv : Lib.validD t.data.toList = false) :
    Calls Tryd.prog 9 #[.agg #[.int .i64 5, .string t, .slice A 0 c, .slice B 0 d]] w fun e w' => e = .returned (.tuple #[.slice none 0 0, .int .i64 2]) ∧ Below w.heap.size w w' := by
  have hB1 : Below w.heap.size w (w.alloc (Obj.cells #[.int .i64 5, .string t, .slice A 0 c, .slice B 0 d] 25)) := by go_grown
  have hS := sound_str t A B c d (hE.on hB1) ht 32
  rw [hv] at hS
  have HS := Lib.hid hS
  have HB1 := Lib.hid hB1
  clear hS hB1 hE
  go_enter Tryd.func9, Tryd.ntmps9
  go_wp2_with (go_at_call 17; (with_reducible refine HS.out.mono ?_); rintro e' w2 ⟨rfl, hb2⟩; have HB2 := Lib.hid (HB1.out.trans (hb2.mono HB1.out.size)); clear hb2)
  go_ret2
  exact ⟨rfl, HB2.out⟩
set_option maxHeartbeats 1000000 in
set_option maxRecDepth 100000 in
theorem print_yes (t : ByteArray) (A B : Option Addr) (c d : Nat) {w : World} (hE : Env w) (ht : t.size ≤ 9223372036854775807) (hv : Lib.validD t.data.toList = true) (hq : (quotedL t).length ≤ 262144) :
    Calls Tryd.prog 9 #[.agg #[.int .i64 5, .string t, .slice A 0 c, .slice B 0 d]] w fun e w' => ∃ P p, e = .returned (.tuple #[.slice P (quotedL t).length p, .int .i64 0]) ∧ Below w.heap.size w w' ∧ Lib.BytesAt w' P (quotedL t).length (quotedL t) ∧ (∀ ad, P = some ad → ad.block < w'.heap.size) ∧ (quotedL t).length ≤ p ∧ p ≤ maxLen := by
  have hB1 : Below w.heap.size w (w.alloc (Obj.cells #[.int .i64 5, .string t, .slice A 0 c, .slice B 0 d] 25)) := by go_grown
  have hS := sound_str t A B c d (hE.on hB1) ht 32
  rw [hv] at hS
  have h0 := heap_alloc_new w (Obj.cells #[.int .i64 5, .string t, .slice A 0 c, .slice B 0 d] 25)
  have HX := Lib.hid (fun W (hb : Below (w.alloc (Obj.cells #[.int .i64 5, .string t, .slice A 0 c, .slice B 0 d] 25)).heap.size (w.alloc (Obj.cells #[.int .i64 5, .string t, .slice A 0 c, .slice B 0 d] 25)) W) => (hb.block _ (blk_lt h0)).trans h0)
  have HS := Lib.hid hS
  have HB1 := Lib.hid hB1
  have HQ := Lib.hid hq
  clear hS hB1 hE h0 hq
  go_enter Tryd.func9, Tryd.ntmps9
  go_wp2_with (go_at_call 17; (with_reducible refine HS.out.mono ?_); rintro e' w2 ⟨rfl, hb2⟩; have hw3 := hb2.alloc hb2.size (Obj.cells #[.slice none 0 0] 45 (0, 0)); have hbk := HX.out _ hw3; have q0 := (blk_cell hbk 0 : (w2.alloc (Obj.cells #[.slice none 0 0] 45 (0, 0))).cell? ⟨w.heap.size, 0, none⟩ = some (.int .i64 5)); have q1 := (blk_cell hbk 1 : (w2.alloc (Obj.cells #[.slice none 0 0] 45 (0, 0))).cell? ⟨w.heap.size, 1, none⟩ = some (.string t)); have q2 := (blk_cell hbk 2 : (w2.alloc (Obj.cells #[.slice none 0 0] 45 (0, 0))).cell? ⟨w.heap.size, 2, none⟩ = some (.slice A 0 c)); have q3 := (blk_cell hbk 3 : (w2.alloc (Obj.cells #[.slice none 0 0] 45 (0, 0))).cell? ⟨w.heap.size, 3, none⟩ = some (.slice B 0 d)); have HB3 := Lib.hid (HB1.out.trans (hw3.mono HB1.out.size)); have HPR := Lib.hid (PR.new (w := w2)); have hsz2 := Nat.le_trans HB1.out.size hb2.size; have HSZ := Lib.hid hsz2; clear hb2 hw3 hbk hsz2)
  go_at_call 18
  refine (value_str HPR.out t A B c d).mono ?_
  rintro e' w4 ⟨hB4, hK4, ⟨hr, rfl, hP4⟩ | ⟨hr, rfl, l', hP4⟩⟩
  · rw [List.nil_append] at hP4
    obtain ⟨P, p, r0, hY, hb, hl, hm⟩ := hP4.at
    have HY := Lib.hid hY
    have Hb := Lib.hid hb
    have HL := Lib.hid hl
    have HM := Lib.hid hm
    have HB4 := Lib.hid (HB3.out.trans (hB4.mono HSZ.out))
    clear hY hb hl hm hB4 hK4 hP4 hr q0 q1 q2 q3
    go_wp2_with fail
    go_ret2
    exact ⟨P, p, rfl, HB4.out, HY.out, Hb.out, HL.out, HM.out⟩
  · exfalso
    have := HQ.out
    simp only [List.length_nil] at hr
    omega
end Go.Proofs.YtmjooghfghmngaaDoor
