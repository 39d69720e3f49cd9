/- Which values are sound: the printer's sound, of any value. -/
import Derived.Test.YtmjooghfghmngaaDoorJPrs
namespace Go.Proofs.YtmjooghfghmngaaDoor
open Go.RowKit Go.Shelf Go.Lib

/-- Texts and lists in it are no longer than may be. -/
def TM : Nat → JV → Prop
  | 0, _ => True
  | d + 1, .mk _ t ks xs => t.size ≤ maxLen ∧ (∀ k ∈ ks, k.size ≤ maxLen) ∧ ks.length ≤ maxLen ∧ xs.length ≤ maxLen ∧ ∀ x ∈ xs, TM d x
/-- A value's own part of being sound, of so many keys and values; wi: what is within it is. -/
def headJ (k : Int) (t : ByteArray) (a b : Nat) (wi : Bool) : Bool :=
  if k = 1 ∨ k = 2 ∨ k = 3 then t.toList.isEmpty && (a == 0 && b == 0)
  else if k = 4 then numB t.data.toList && (a == 0 && b == 0)
  else if k = 5 then Lib.validD t.data.toList && (a == 0 && b == 0)
  else if k = 6 then t.toList.isEmpty && (a == 0 && wi)
  else if k = 7 then t.toList.isEmpty && (a == b && wi)
  else false
def soundJ : Nat → JV → Bool
  | 0, .mk k t ks xs => headJ k t ks.length xs.length false
  | n + 1, .mk k t ks xs => headJ k t ks.length xs.length (ks.all (fun u => Lib.validD u.data.toList) && xs.all (soundJ n))
def SoundAt (n : Nat) : Prop := ∀ (W : World) (F : Nat → Prop) (d : Nat) (k : Int) (t : ByteArray) (A1 A2 : Option Addr) (n1 c1 n2 c2 : Nat) (x : JV), VAt W F d ⟨k, t, .slice A1 n1 c1, .slice A2 n2 c2⟩ x → Env W → (∀ g, F g → g < W.heap.size) → TM d x →
    Calls Tryd.prog 17 #[.agg #[.int .i64 k, .string t, .slice A1 n1 c1, .slice A2 n2 c2], .int .i64 n] W fun e w' => e = .returned (.bool (soundJ n x)) ∧ Below W.heap.size W w'
theorem all_take {α : Type} (p : α → Bool) (l : List α) (j : Nat) (x : α) (h : l[j]? = some x) (ha : ∀ y ∈ l.take j, p y = true) : (∀ y ∈ l.take (j + 1), p y = true) ↔ p x = true := by
  have e : l.take (j + 1) = l.take j ++ [x] := by rw [List.take_add_one, h]; rfl
  rw [e]
  constructor
  · intro hh; exact hh x (by simp)
  · intro hp y hy
    rcases List.mem_append.1 hy with hy | hy
    · exact ha y hy
    · rw [List.mem_singleton] at hy; rw [hy]; exact hp

set_option maxHeartbeats 2000000 in
set_option maxRecDepth 100000 in
theorem within_step {n : Nat} (hn : n ≤ 1000) (hI : SoundAt n) {W : World} {F : Nat → Prop} {d : Nat} {k : Int} {t : ByteArray} {ks : List ByteArray} {xs : List JV} {A1 A2 : Option Addr} {c1 c2 : Nat} (hE : Env W)
    (hk1 : ∀ i t, ks[i]? = some t → ∃ g o, A1 = some ⟨g, o, none⟩ ∧ F g ∧ W.cell? ⟨g, o + i, none⟩ = some (.string t))
    (hx1 : ∀ i x, xs[i]? = some x → ∃ g o y, A2 = some ⟨g, o, none⟩ ∧ F g ∧ W.cell? ⟨g, o + i * 4, none⟩ = some (.int .i64 y.k) ∧ W.cell? ⟨g, o + i * 4 + 1, none⟩ = some (.string y.t) ∧ W.cell? ⟨g, o + i * 4 + 2, none⟩ = some y.kv ∧ W.cell? ⟨g, o + i * 4 + 3, none⟩ = some y.lv ∧ VAt W F d y x)
    (hF : ∀ g, F g → g < W.heap.size) (hks : ks.length ≤ maxLen) (hxs : xs.length ≤ maxLen) (hkm : ∀ k ∈ ks, k.size ≤ maxLen) (hsm : ∀ x ∈ xs, TM d x) :
    Calls Tryd.prog 31 #[.agg #[.int .i64 k, .string t, .slice A1 ks.length c1, .slice A2 xs.length c2], .int .i64 ((n + 1 : Nat) : Int)] W fun e w' => e = .returned (.bool (ks.all (fun u => Lib.validD u.data.toList) && xs.all (soundJ n))) ∧ Below W.heap.size W w' := by
  have hwn : IntKind.i64.wrap (((n + 1 : Nat) : Int) - 1) = (n : Int) := by rw [show ((n + 1 : Nat) : Int) - 1 = (n : Int) by omega]; exact IntWalk.i64_in _ (by omega)
  have hn0 : ¬ ((n + 1 : Nat) : Int) = 0 := by omega
  generalize ((n + 1 : Nat) : Int) = nn at hwn hn0 ⊢
  unfold maxLen at hks hxs
  obtain ⟨res, hres⟩ : ∃ res, res = (ks.all (fun u => Lib.validD u.data.toList) && xs.all (soundJ n)) := ⟨_, rfl⟩
  rw [← hres]
  have HRES := Lib.hid hres
  clear hres
  obtain ⟨b, hb0⟩ : ∃ b, b = W.heap.size := ⟨_, rfl⟩
  have HSM := Lib.hid hsm
  have HKM := Lib.hid hkm
  have IH := Lib.hid hI
  have HK1 := Lib.hid hk1
  have HX1 := Lib.hid hx1
  have HF := Lib.hid hF
  have HE := Lib.hid hE
  clear hsm hkm hk1 hx1 hF hI hE
  go_enter Tryd.func31, Tryd.ntmps31
  go_upto_region 1 with (fail)
  have B1' : Below W.heap.size W (W.alloc (Obj.cells #[.int .i64 k, .string t, .slice A1 ks.length c1, .slice A2 xs.length c2] 25)) := by go_grown
  have v0 := heap_alloc_new W (Obj.cells #[.int .i64 k, .string t, .slice A1 ks.length c1, .slice A2 xs.length c2] 25)
  generalize W.alloc (Obj.cells #[.int .i64 k, .string t, .slice A1 ks.length c1, .slice A2 xs.length c2] 25) = W1 at *
  rw [← hb0] at v0 ⊢
  have hW1 : b < W1.heap.size := blk_lt v0
  have HC : Hid (∀ wr, Below W1.heap.size W1 wr → (wr.cell? ⟨b, 0, none⟩ = some (.int .i64 k) ∧ wr.cell? ⟨b, 1, none⟩ = some (.string t) ∧ wr.cell? ⟨b, 2, none⟩ = some (.slice A1 ks.length c1) ∧ wr.cell? ⟨b, 3, none⟩ = some (.slice A2 xs.length c2))) := fun wr hb => by
    have h0 := (hb.block b (by omega)).trans v0
    exact ⟨blk_cell h0 0, blk_cell h0 1, blk_cell h0 2, blk_cell h0 3⟩
  have HBW := Lib.hid B1'
  have HW1 := Lib.hid hW1
  obtain ⟨q0, q1, q2, q3⟩ := HC.out W1 (Below.refl _ _)
  have HN := Lib.hid hb0
  clear v0 B1' hW1 hb0
  go_wp2_with fail
  rename (nn == 0) = false => hz
  clear q0 q1 q2 q3 hz hn0
  go_loopw [14] (fun i wr => ∃ j : Nat, i = .int .i64 j ∧ j ≤ ks.length ∧ Hid (∀ u ∈ ks.take j, Lib.validD u.data.toList = true) ∧ Hid (Below W1.heap.size W1 wr)) (fun i _ => ks.length - (RowKit.intOf i).toNat)
  case atStart => exact ⟨0, rfl, by omega, Lib.hid (fun u hu => by simp at hu), Below.refl _ _⟩
  case round =>
    obtain ⟨j, rfl, hj, HJ, HB⟩ := hrel
    obtain ⟨q0, q1, q2, q3⟩ := HC.out _ HB.out
    by_cases hlt : j < ks.length
    · have hl : (j : Int) < (ks.length : Int) := by omega
      have hl0 : (0 : Int) ≤ (j : Int) := by omega
      obtain ⟨u, hu⟩ : ∃ u, ks[j]? = some u := ⟨ks[j], List.getElem?_eq_getElem hlt⟩
      obtain ⟨ga, oa, hAe, hga, ca⟩ := HK1.out j u hu
      have hlb : Below W.heap.size W wr := HBW.out.trans (HB.out.mono HBW.out.size)
      have s1 := (cell_keep (hlb.block ga (HF.out ga hga)) (oa + j)).trans ca
      have hkz := HKM.out u (List.mem_of_getElem? hu)
      unfold maxLen at hkz
      have hV : Hid (∀ w0, Below W1.heap.size W1 w0 → Calls Tryd.prog 30 #[.string u] w0 fun e w' => e = .returned (.bool (Lib.validD u.data.toList)) ∧ Below w0.heap.size w0 w') := fun w0 hb => valid_any u (HE.out.on (HBW.out.trans (hb.mono HBW.out.size))) (by omega)
      have hat := all_take (fun u : ByteArray => Lib.validD u.data.toList) ks j u hu HJ.out
      have hmem := List.mem_of_getElem? hu
      generalize hvu : Lib.validD u.data.toList = vu at hV
      have HAT := Lib.hid hat
      have HU := Lib.hid hmem
      have HVU := Lib.hid hvu
      subst hAe
      clear ca hu hga hlb hkz hat hmem hvu
      cases vu with
      | true =>
        go_wp2_with (go_at_call 30; (with_reducible refine (hV.out _ HB.out).mono ?_); rintro e'' Wi ⟨rfl, hBi⟩; have HBI := Lib.hid (HB.out.trans (hBi.mono HB.out.size)); clear hBi)
        exact ⟨⟨j + 1, by go_num, by omega, HAT.out.2 HVU.out, HBI.out⟩, by simp [RowKit.intOf]; omega⟩
      | false =>
        go_wp2_with (go_at_call 30; (with_reducible refine (hV.out _ HB.out).mono ?_); rintro e'' Wi ⟨rfl, hBi⟩; have HBI := Lib.hid (HB.out.trans (hBi.mono HB.out.size)); clear hBi)
        go_ret
        refine ⟨?_, HBW.out.trans (HBI.out.mono HBW.out.size)⟩
        have : ks.all (fun u => Lib.validD u.data.toList) = false := by
          rw [List.all_eq_false]
          exact ⟨u, HU.out, by rw [HVU.out]; simp⟩
        rw [HRES.out, this]
        rfl
    · have hl : ¬ (j : Int) < (ks.length : Int) := by omega
      have HB2 := HB
      have hka : ks.all (fun u => Lib.validD u.data.toList) = true := by
        rw [List.all_eq_true]
        intro u hu
        exact HJ.out u (by rw [List.take_of_length_le (by omega)]; exact hu)
      have HKA := Lib.hid hka
      clear HK1 hj hlt HJ hka HKM
      go_wp2_with fail
      clear q0 q1 q2 q3 hl
      go_loopw [25] (fun i w2 => ∃ m : Nat, i = .int .i64 m ∧ m ≤ xs.length ∧ Hid (∀ y ∈ xs.take m, soundJ n y = true) ∧ Hid (Below W1.heap.size W1 w2)) (fun i _ => xs.length - (RowKit.intOf i).toNat)
      case atStart => exact ⟨0, rfl, by omega, Lib.hid (fun u hu => by simp at hu), HB2.out⟩
      case round =>
        obtain ⟨m, rfl, hm, HM, HB3⟩ := hrel
        obtain ⟨q0, q1, q2, q3⟩ := HC.out _ HB3.out
        by_cases hlt : m < xs.length
        · have hl : (m : Int) < (xs.length : Int) := by omega
          have hl0 : (0 : Int) ≤ (m : Int) := by omega
          obtain ⟨x, hx⟩ : ∃ x, xs[m]? = some x := ⟨xs[m], List.getElem?_eq_getElem hlt⟩
          obtain ⟨ga, oa, ⟨y1k, y1t, y1v, y1l⟩, hAe, hga, a0, a1, a2, a3, hv1⟩ := HX1.out m x hx
          obtain ⟨e, he⟩ := hv1.pos
          have hs1 := VAt.slices (he ▸ hv1)
          obtain ⟨P1, pn, pc, P2, pm, pe, rfl, rfl⟩ := hs1
          simp only at a0 a1 a2 a3
          have hlb : Below W.heap.size W wr := HBW.out.trans (HB3.out.mono HBW.out.size)
          have hat := all_take (soundJ n) xs m x hx HM.out
          have hmem := List.mem_of_getElem? hx
          have HS : Hid (∀ W0, Below wr.heap.size wr W0 → Calls Tryd.prog 17 #[.agg #[.int .i64 y1k, .string y1t, .slice P1 pn pc, .slice P2 pm pe], .int .i64 n] W0 fun e w' => e = .returned (.bool (soundJ n x)) ∧ Below wr.heap.size wr w') := fun W0 hb =>
            have hlb2 : Below W.heap.size W W0 := hlb.trans (hb.mono hlb.size)
            (IH.out W0 F d y1k y1t P1 P2 pn pc pm pe x (hv1.keep fun g hg => ⟨hg, hlb2.block g (HF.out g hg)⟩) (HE.out.on hlb2) (fun g hg => Nat.lt_of_lt_of_le (HF.out g hg) hlb2.size) (HSM.out x hmem)).mono fun e' w' ⟨h1, h2⟩ => ⟨h1, hb.trans (h2.mono hb.size)⟩
          subst hAe
          have ha := hlb.block ga (HF.out ga hga)
          have a0 := (cell_keep ha _).trans a0
          have a1 := (cell_keep ha _).trans a1
          have a2 := (cell_keep ha _).trans a2
          have a3 := (cell_keep ha _).trans a3
          have hBN : Below wr.heap.size wr (wr.alloc (Obj.cells #[.int .i64 y1k, .string y1t, .slice P1 pn pc, .slice P2 pm pe] 25 (0, 0))) := by go_grown
          generalize hvu : soundJ n x = vu at HS
          have HAT := Lib.hid hat
          have HU := Lib.hid hmem
          have HVU := Lib.hid hvu
          have HBN := Lib.hid hBN
          clear hv1 he hx hga hlb hat hmem hvu ha hBN
          cases vu with
          | true =>
            go_wp2_with (go_at_call 17; (with_reducible refine (HS.out _ HBN.out).mono ?_); rintro e'' Wi ⟨rfl, hBi⟩; have HBI := Lib.hid (HB3.out.trans (hBi.mono HB3.out.size)); clear hBi)
            exact ⟨⟨m + 1, by go_num, by omega, HAT.out.2 HVU.out, HBI.out⟩, by simp [RowKit.intOf]; omega⟩
          | false =>
            go_wp2_with (go_at_call 17; (with_reducible refine (HS.out _ HBN.out).mono ?_); rintro e'' Wi ⟨rfl, hBi⟩; have HBI := Lib.hid (HB3.out.trans (hBi.mono HB3.out.size)); clear hBi)
            go_ret
            refine ⟨?_, HBW.out.trans (HBI.out.mono HBW.out.size)⟩
            have : xs.all (soundJ n) = false := by
              rw [List.all_eq_false]
              exact ⟨x, HU.out, by rw [HVU.out]; simp⟩
            rw [HRES.out, this, Bool.and_false]
            rfl
        · have hl : ¬ (m : Int) < (xs.length : Int) := by omega
          have hxa : xs.all (soundJ n) = true := by
            rw [List.all_eq_true]
            intro u hu
            exact HM.out u (by rw [List.take_of_length_le (by omega)]; exact hu)
          have HXA := Lib.hid hxa
          clear hxa
          go_wp2_with fail
          go_ret
          exact ⟨by rw [HRES.out, HKA.out, HXA.out]; rfl, HBW.out.trans (HB3.out.mono HBW.out.size)⟩
theorem within_zero {W : World} (k : Int) (t : ByteArray) (A1 A2 : Option Addr) (n1 c1 n2 c2 : Nat) :
    Calls Tryd.prog 31 #[.agg #[.int .i64 k, .string t, .slice A1 n1 c1, .slice A2 n2 c2], .int .i64 0] W fun e w' => e = .returned (.bool false) ∧ Below W.heap.size W w' := by
  go_enter Tryd.func31, Tryd.ntmps31
  go_wp2_with fail
  go_ret
  exact ⟨rfl, by go_grown⟩
set_option maxRecDepth 100000 in
theorem single_of (k : Int) (t : ByteArray) (A B : Option Addr) (a b c d : Nat) (w : World) :
    Calls Tryd.prog 28 #[.agg #[.int .i64 k, .string t, .slice A a c, .slice B b d]] w fun e w' => e = .returned (.bool (a == 0 && b == 0)) ∧ Below w.heap.size w w' := by
  by_cases ha : a = 0
  · subst ha
    by_cases hb : b = 0
    · subst hb
      exact single_any k t A B c d w
    · have h1 : ((b : Int) == 0) = false := by simpa using hb
      have e1 : (b == 0) = false := by simpa using hb
      rw [e1, Bool.and_false]
      go_enter Tryd.func28, Tryd.ntmps28
      go_wp2_with fail
      go_ret
      exact ⟨rfl, by go_grown⟩
  · have h1 : ((a : Int) == 0) = false := by simpa using ha
    have e1 : (a == 0) = false := by simpa using ha
    rw [e1, Bool.false_and]
    go_enter Tryd.func28, Tryd.ntmps28
    go_wp2_with fail
    go_ret
    exact ⟨rfl, by go_grown⟩
end Go.Proofs.YtmjooghfghmngaaDoor
