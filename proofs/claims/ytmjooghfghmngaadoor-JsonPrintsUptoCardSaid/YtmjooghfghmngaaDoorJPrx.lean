/- The printer: one step behind the other, a member's name, values with none within. -/
import Derived.Test.YtmjooghfghmngaaDoorJSndOf
namespace Go.Proofs.YtmjooghfghmngaaDoor
open Go.RowKit Go.Shelf Go.Lib

theorem OutA.seq {B pb : Nat} {l t t2 : List UInt8} {w w' w2 : World} {e : Ending} (h1 : Below B w w') (h2 : Kept pb w w') (h : OutA B pb (l ++ t) t2 w' e w2) : OutA B pb l (t ++ t2) w e w2 := by
  obtain ⟨g1, g2, ⟨g3, g4, g5⟩ | ⟨g3, g4, g5⟩⟩ := h
  · rw [List.append_assoc] at g5
    rw [List.length_append] at g3
    exact ⟨h1.trans g1, h2.trans g2, .inl ⟨by rw [List.length_append]; omega, g4, g5⟩⟩
  · rw [List.length_append] at g3
    exact ⟨h1.trans g1, h2.trans g2, .inr ⟨by rw [List.length_append]; omega, g4, g5⟩⟩
set_option maxHeartbeats 1000000 in
set_option maxRecDepth 100000 in
theorem named_any {B : Nat} {W : World} {pb : Nat} {l : List UInt8} (h : PR B W pb l) (t : ByteArray) :
    Calls Tryd.prog 51 #[.pointer (some ⟨pb, 0, none⟩), .string t] W (OutA B pb l (quotedL t ++ [58]) W) := by
  have HQ := Lib.hid (quoted_any h t)
  clear h
  go_enter Tryd.func51, Tryd.ntmps51
  go_wp2_with fail
  go_at_call 33
  refine HQ.out.mono ?_
  rintro e' w1 ⟨hB1, hK1, ⟨hr, rfl, hP1⟩ | ⟨hr, rfl, l', hP1⟩⟩
  · have HA := Lib.hid (add_any hP1 ⟨#[58]⟩)
    have HB1 := Lib.hid hB1
    have HK1 := Lib.hid hK1
    have HR := Lib.hid hr
    clear hB1 hK1 hP1 hr
    go_wp2_with fail
    go_at_call 32
    refine HA.out.mono ?_
    rintro e' w2 hO
    have HO := Lib.hid (OutA.seq HB1.out HK1.out hO)
    obtain ⟨_, _, ⟨_, rfl, _⟩ | ⟨_, rfl, _⟩⟩ := hO
    · go_wp2_with fail
      go_ret
      exact HO.out
    · go_wp2_with fail
      go_ret
      exact HO.out
  · have HO : Hid (OutA B pb l (quotedL t ++ [58]) W (.returned (.bool false)) w1) := ⟨hB1, hK1, .inr ⟨by rw [List.length_append]; omega, rfl, l', hP1⟩⟩
    clear hB1 hK1 hP1 hr
    go_wp2_with fail
    go_ret
    exact HO.out
/-- A part of a list: what parts it from the one ahead, its name, and itself. -/
def partJ (f : JV → List UInt8) (obj : Bool) (ks : List ByteArray) (i : Nat) (x : JV) : List UInt8 := (if 0 < i then [44] else []) ++ ((if obj then quotedL (ks.getD i ⟨#[]⟩) ++ [58] else []) ++ f x)
def partsJ (f : JV → List UInt8) (obj : Bool) (ks : List ByteArray) : Nat → List JV → List UInt8
  | _, [] => []
  | i, x :: r => partJ f obj ks i x ++ partsJ f obj ks (i + 1) r
def printJ : Nat → JV → List UInt8
  | 0, _ => []
  | d + 1, .mk k t ks xs =>
    if k = 1 then [110, 117, 108, 108] else if k = 2 then [102, 97, 108, 115, 101] else if k = 3 then [116, 114, 117, 101] else if k = 4 then t.data.toList else if k = 5 then quotedL t
    else if k = 6 then [91] ++ (partsJ (printJ d) false ks 0 xs ++ [93]) else [123] ++ (partsJ (printJ d) true ks 0 xs ++ [125])
theorem parts_snoc (f : JV → List UInt8) (obj : Bool) (ks : List ByteArray) : ∀ (l : List JV) (i : Nat) (x : JV), partsJ f obj ks i (l ++ [x]) = partsJ f obj ks i l ++ partJ f obj ks (i + l.length) x
  | [], i, x => by simp [partsJ]
  | y :: l, i, x => by
    rw [List.cons_append, partsJ, partsJ, parts_snoc f obj ks l (i + 1) x, List.append_assoc, List.length_cons, show i + 1 + l.length = i + (l.length + 1) by omega]
theorem parts_take (f : JV → List UInt8) (obj : Bool) (ks : List ByteArray) {xs : List JV} {m : Nat} {x : JV} (h : xs[m]? = some x) : partsJ f obj ks 0 (xs.take (m + 1)) = partsJ f obj ks 0 (xs.take m) ++ partJ f obj ks m x := by
  have hm := (List.getElem?_eq_some_iff.1 h).1
  have e : xs.take (m + 1) = xs.take m ++ [x] := by rw [List.take_add_one, h]; rfl
  rw [e, parts_snoc, List.length_take, Nat.min_eq_left (by omega), Nat.zero_add]
theorem parts_len (f : JV → List UInt8) (obj : Bool) (ks : List ByteArray) (xs : List JV) (m : Nat) : (partsJ f obj ks 0 (xs.take m)).length ≤ (partsJ f obj ks 0 xs).length := by
  have h : ∀ (l : List JV) (i m : Nat), (partsJ f obj ks i (l.take m)).length ≤ (partsJ f obj ks i l).length := by
    intro l
    induction l with
    | nil => intro i m; simp
    | cons x l ih =>
      intro i m
      cases m with
      | zero => simp [partsJ]
      | succ m =>
        rw [List.take_succ_cons, partsJ, partsJ, List.length_append, List.length_append]
        have := ih (i + 1) m
        omega
  exact h xs 0 m
/-- As many names as values, where there are names. -/
def WJ : Nat → JV → Prop
  | 0, _ => True
  | d + 1, .mk k _ ks xs => (k = 7 → ks.length = xs.length) ∧ ((k = 1 ∨ k = 2 ∨ k = 3 ∨ k = 4 ∨ k = 5) ∨ k = 6 ∨ k = 7) ∧ ∀ x ∈ xs, WJ d x
def PrintAt (d : Nat) : Prop := ∀ (B : Nat) (W : World) (pb : Nat) (l : List UInt8) (F : Nat → Prop) (k : Int) (t : ByteArray) (A1 A2 : Option Addr) (n1 c1 n2 c2 : Nat) (x : JV), VAt W F d ⟨k, t, .slice A1 n1 c1, .slice A2 n2 c2⟩ x → PR B W pb l → (∀ g, F g → g < B) → WJ d x → TM d x →
    Calls Tryd.prog 18 #[.pointer (some ⟨pb, 0, none⟩), .agg #[.int .i64 k, .string t, .slice A1 n1 c1, .slice A2 n2 c2]] W (OutA B pb l (printJ d x) W)
/-- Where a step stands: the text is so far longer, or the answer is told. -/
def StP (B pb : Nat) (W w3 wx : World) (l tx all : List UInt8) (f : Bool) : Prop := (f = false ∧ Below B W wx ∧ Kept pb w3 wx ∧ PR B wx pb tx) ∨ (f = true ∧ OutA B pb l all W (.returned (.bool false)) wx)
set_option maxHeartbeats 2000000 in
set_option maxRecDepth 100000 in
theorem print_within {d : Nat} (hI : PrintAt d) {B : Nat} {W : World} {pb : Nat} {l : List UInt8} {F : Nat → Prop} {k : Int} {t : ByteArray} {ks : List ByteArray} {xs : List JV} {A1 A2 : Option Addr} {c1 c2 : Nat} (hP : PR B W pb l)
    (hk1 : ∀ i t, ks[i]? = some t → ∃ g o, A1 = some ⟨g, o, none⟩ ∧ F g ∧ W.cell? ⟨g, o + i, none⟩ = some (.string t))
    (hx1 : ∀ i x, xs[i]? = some x → ∃ g o y, A2 = some ⟨g, o, none⟩ ∧ F g ∧ W.cell? ⟨g, o + i * 4, none⟩ = some (.int .i64 y.k) ∧ W.cell? ⟨g, o + i * 4 + 1, none⟩ = some (.string y.t) ∧ W.cell? ⟨g, o + i * 4 + 2, none⟩ = some y.kv ∧ W.cell? ⟨g, o + i * 4 + 3, none⟩ = some y.lv ∧ VAt W F d y x)
    (hF : ∀ g, F g → g < B) (hxs : xs.length ≤ maxLen) (hw : ∀ x ∈ xs, WJ d x) (hsm : ∀ x ∈ xs, TM d x) (obj : Bool) (hobj : obj = (k == 7)) (hlen : obj = true → ks.length = xs.length) :
    Calls Tryd.prog 34 #[.pointer (some ⟨pb, 0, none⟩), .agg #[.int .i64 k, .string t, .slice A1 ks.length c1, .slice A2 xs.length c2]] W (OutA B pb l (partsJ (printJ d) obj ks 0 xs) W) := by
  unfold maxLen at hxs
  go_enter Tryd.func34, Tryd.ntmps34
  go_upto_region 1 with (fail)
  have hbs : B ≤ W.heap.size := by
    obtain ⟨v, hb, _⟩ := hP.own
    exact Nat.le_trans hP.low (Nat.le_of_lt (blk_lt hb))
  have hpb : pb < W.heap.size := by
    obtain ⟨v, hb, _⟩ := hP.own
    exact blk_lt hb
  have hb1 : Below W.heap.size W (W.alloc (Obj.cells #[.int .i64 k, .string t, .slice A1 ks.length c1, .slice A2 xs.length c2] 25)) := by go_grown
  have h0 := heap_alloc_new W (Obj.cells #[.int .i64 k, .string t, .slice A1 ks.length c1, .slice A2 xs.length c2] 25)
  have hP1 := hP.on hb1
  have hK1 : Kept pb W (W.alloc (Obj.cells #[.int .i64 k, .string t, .slice A1 ks.length c1, .slice A2 xs.length c2] 25)) := Kept.below hb1
  generalize W.alloc (Obj.cells #[.int .i64 k, .string t, .slice A1 ks.length c1, .slice A2 xs.length c2] 25) = W1 at *
  have hBB : Below B W W1 := hb1.mono hbs
  obtain ⟨b, hb0⟩ : ∃ b, b = W.heap.size := ⟨_, rfl⟩
  rw [← hb0] at h0 ⊢
  have HC : Hid (∀ wr, Kept pb W1 wr → (wr.cell? ⟨b, 0, none⟩ = some (.int .i64 k) ∧ wr.cell? ⟨b, 1, none⟩ = some (.string t) ∧ wr.cell? ⟨b, 2, none⟩ = some (.slice A1 ks.length c1) ∧ wr.cell? ⟨b, 3, none⟩ = some (.slice A2 xs.length c2))) := fun wr hk => by
    have hh := hk.2 b _ h0 (by omega) (fun cur fr e => by cases e)
    exact ⟨blk_cell hh 0, blk_cell hh 1, blk_cell hh 2, blk_cell hh 3⟩
  obtain ⟨q0, q1, q2, q3⟩ := HC.out W1 (Kept.refl _ _)
  have HP1 := Lib.hid hP1
  have HK1 := Lib.hid hK1
  have HBB := Lib.hid hBB
  have HBS := Lib.hid hbs
  have HN := Lib.hid hb0
  have IH := Lib.hid hI
  have HX1 := Lib.hid hx1
  have HKN := Lib.hid hk1
  have HF := Lib.hid hF
  have HW := Lib.hid hw
  have HSM := Lib.hid hsm
  have HL := Lib.hid hlen
  have HO := Lib.hid hobj
  clear hP hP1 hb1 h0 hK1 hBB hbs hb0 hpb hI hx1 hk1 hF hw hsm hlen hobj
  go_wp2_with fail
  clear q0 q1 q2 q3
  go_loopw [10] (fun i wr => ∃ j : Nat, i = .int .i64 j ∧ j ≤ xs.length ∧ Hid (Below B W wr) ∧ Hid (Kept pb W1 wr) ∧ Hid (PR B wr pb (l ++ partsJ (printJ d) obj ks 0 (xs.take j)))) (fun i _ => xs.length - (RowKit.intOf i).toNat)
  case atStart => exact ⟨0, rfl, by omega, HBB.out, Kept.refl _ _, Lib.hid (by have := HP1.out; simpa [partsJ] using this)⟩
  case round =>
    obtain ⟨j, rfl, hj, HB, HK, HP⟩ := hrel
    obtain ⟨q0, q1, q2, q3⟩ := HC.out _ HK.out
    by_cases hlt : j < xs.length
    · have hl : (j : Int) < (xs.length : Int) := by omega
      have hl0 : (0 : Int) ≤ (j : Int) := by omega
      obtain ⟨x, hx⟩ : ∃ x, xs[j]? = some x := ⟨xs[j], List.getElem?_eq_getElem hlt⟩
      obtain ⟨ga, oa, ⟨y1k, y1t, y1v, y1l⟩, hAe, hga, a0, a1, a2, a3, hv1⟩ := HX1.out j x hx
      obtain ⟨e, he⟩ := hv1.pos
      have hs1 := VAt.slices (he ▸ hv1)
      obtain ⟨P1, pn, pc, P2, pm, pe, rfl, rfl⟩ := hs1
      simp only at a0 a1 a2 a3
      subst hAe
      have ha := HB.out.block ga (HF.out ga hga)
      have a0 := (cell_keep ha _).trans a0
      have a1 := (cell_keep ha _).trans a1
      have a2 := (cell_keep ha _).trans a2
      have a3 := (cell_keep ha _).trans a3
      have hat := parts_take (printJ d) obj ks hx
      have hall := parts_len (printJ d) obj ks xs (j + 1)
      rw [hat] at hall
      unfold partJ at hat hall
      have HAT := Lib.hid hat
      have HALL := Lib.hid hall
      have HV1 := Lib.hid hv1
      have HMEM := Lib.hid (List.mem_of_getElem? hx)
      clear hat hall hv1 he hx hga ha
      go_upto_region 4 with (fail)
      have hsz : B ≤ wr.heap.size := Nat.le_trans HBS.out HB.out.size
      have hpb2 : pb < wr.heap.size := by
        obtain ⟨v, hb, _⟩ := HP.out.own
        exact blk_lt hb
      have hbn : Below wr.heap.size wr (wr.alloc (Obj.cells #[.int .i64 y1k, .string y1t, .slice P1 pn pc, .slice P2 pm pe] 25 (0, 0))) := by go_grown
      have hbx := heap_alloc_new wr (Obj.cells #[.int .i64 y1k, .string y1t, .slice P1 pn pc, .slice P2 pm pe] 25 (0, 0))
      have hP2 := HP.out.on hbn
      have hK2 := HK.out.trans (Kept.below hbn)
      have hB2 := HB.out.trans (hbn.mono hsz)
      generalize wr.alloc (Obj.cells #[.int .i64 y1k, .string y1t, .slice P1 pn pc, .slice P2 pm pe] 25 (0, 0)) = w3 at *
      have HC2 : Hid (∀ wx, Kept pb w3 wx → (wx.cell? ⟨wr.heap.size, 0, none⟩ = some (.int .i64 y1k) ∧ wx.cell? ⟨wr.heap.size, 1, none⟩ = some (.string y1t) ∧ wx.cell? ⟨wr.heap.size, 2, none⟩ = some (.slice P1 pn pc) ∧ wx.cell? ⟨wr.heap.size, 3, none⟩ = some (.slice P2 pm pe))) := fun wx hk => by
        have hh := hk.2 _ _ hbx (by omega) (fun cur fr e => by cases e)
        exact ⟨blk_cell hh 0, blk_cell hh 1, blk_cell hh 2, blk_cell hh 3⟩
      have HP2 := Lib.hid hP2
      have HK2 := Lib.hid hK2
      have HB2 := Lib.hid hB2
      clear hsz hpb2 hbn hbx hP2 hK2 hB2 a0 a1 a2 a3 q0 q1 q2 q3 HP HK HB
      generalize partsJ (printJ d) obj ks 0 (xs.take j) = L0 at *
      generalize hcm : (if 0 < j then [44] else ([] : List UInt8)) = CM at *
      go_cut [21] (fun v wx => ∃ f, v = .bool f ∧ Hid (StP B pb W w3 wx l (l ++ L0 ++ CM) (partsJ (printJ d) obj ks 0 xs) f))
      case first =>
        by_cases hj0 : j = 0
        · subst hj0
          have hcm2 : CM = [] := hcm.symm
          subst hcm2
          have HR : Hid (StP B pb W w3 w3 l (l ++ L0 ++ []) (partsJ (printJ d) obj ks 0 xs) false) := .inl ⟨rfl, HB2.out, Kept.refl _ _, by rw [List.append_nil]; exact HP2.out⟩
          clear hcm
          go_wp2_with fail
          go_meet
          exact ⟨false, rfl, HR⟩
        · have hj1 : (0 : Int) < (j : Int) := by omega
          rw [if_pos (by omega)] at hcm
          subst hcm
          have HA := Lib.hid (add_any HP2.out ⟨#[44]⟩)
          go_wp2_with fail
          go_at_call 32
          refine HA.out.mono ?_
          rintro e' w4 ⟨hB4, hK4, ⟨hr, rfl, hP4⟩ | ⟨hr, rfl, l', hP4⟩⟩
          · have HR : Hid (StP B pb W w3 w4 l (l ++ L0 ++ [44]) (partsJ (printJ d) obj ks 0 xs) false) := .inl ⟨rfl, HB2.out.trans hB4, hK4, hP4⟩
            clear hB4 hK4 hr hP4
            go_wp2_with fail
            go_meet
            exact ⟨false, rfl, HR⟩
          · have HR : Hid (StP B pb W w3 w4 l (l ++ L0 ++ [44]) (partsJ (printJ d) obj ks 0 xs) true) := .inr ⟨rfl, HB2.out.trans hB4, (HK1.out.trans HK2.out).trans hK4, .inr ⟨by
              have := HALL.out
              simp only [List.length_append, List.length_cons, List.length_nil] at this hr ⊢
              omega, rfl, l', hP4⟩⟩
            clear hB4 hK4 hr hP4
            go_wp2_with fail
            go_meet
            exact ⟨true, rfl, HR⟩
      case rest =>
        obtain ⟨f, rfl, HR⟩ := hcut
        cases f with
        | true =>
          have HO2 := Lib.hid (HR.out.resolve_left (fun h => by cases h.1)).2
          clear HR
          go_wp2_with fail
          go_ret
          exact HO2.out
        | false =>
        obtain ⟨-, hB5, hK5, hP5⟩ := HR.out.resolve_right (fun h => by cases h.1)
        have HB5 := Lib.hid hB5
        have HK5 := Lib.hid hK5
        have HP5 := Lib.hid hP5
        clear hB5 hK5 hP5 HR hcm
        generalize hnm : (if obj then quotedL (ks.getD j ⟨#[]⟩) ++ [58] else ([] : List UInt8)) = NM at *
        go_upto_region 6 with (fail)
        go_cut [34] (fun v wx => ∃ f, v = .bool f ∧ Hid (StP B pb W w3 wx l (l ++ L0 ++ CM ++ NM) (partsJ (printJ d) obj ks 0 xs) f))
        case first =>
          obtain ⟨q0, q1, q2, q3⟩ := HC.out _ (HK2.out.trans HK5.out)
          cases obj with
          | false =>
            have hk7 : ¬ k = 7 := fun h => by have := HO.out; rw [h] at this; cases this
            have hcm2 : NM = [] := hnm.symm
            subst hcm2
            have HR : Hid (StP B pb W w3 wc l (l ++ L0 ++ CM ++ []) (partsJ (printJ d) false ks 0 xs) false) := .inl ⟨rfl, HB5.out, HK5.out, by rw [List.append_nil]; exact HP5.out⟩
            clear hnm
            go_wp2_with fail
            go_meet
            exact ⟨false, rfl, HR⟩
          | true =>
            have hk7 : k = 7 := by have := HO.out; simpa using this.symm
            have hjk : j < ks.length := by rw [HL.out rfl]; exact hlt
            obtain ⟨u, hu⟩ : ∃ u, ks[j]? = some u := ⟨ks[j], List.getElem?_eq_getElem hjk⟩
            obtain ⟨gk, ok, hKe, hgk, ck⟩ := HKN.out j u hu
            have s1 := (cell_keep (HB5.out.block gk (HF.out gk hgk)) (ok + j)).trans ck
            rw [List.getD_eq_getElem?_getD, hu, if_pos rfl] at hnm
            have hnm2 : NM = quotedL u ++ [58] := hnm.symm
            subst hKe
            have HA := Lib.hid (named_any HP5.out u)
            have HNM := Lib.hid hnm2
            have hj2 : (j : Int) < (ks.length : Int) := by omega
            clear ck hu hgk hnm hnm2
            subst hk7
            go_wp2_with fail
            go_at_call 51
            refine HA.out.mono ?_
            rw [← HNM.out]
            rintro e' w6 ⟨hB4, hK4, ⟨hr, rfl, hP4⟩ | ⟨hr, rfl, l', hP4⟩⟩
            · have HR : Hid (StP B pb W w3 w6 l (l ++ L0 ++ CM ++ NM) (partsJ (printJ d) true ks 0 xs) false) := .inl ⟨rfl, HB5.out.trans hB4, HK5.out.trans hK4, hP4⟩
              clear hB4 hK4 hr hP4
              go_wp2_with fail
              go_meet
              exact ⟨false, rfl, HR⟩
            · have HR : Hid (StP B pb W w3 w6 l (l ++ L0 ++ CM ++ NM) (partsJ (printJ d) true ks 0 xs) true) := .inr ⟨rfl, HB5.out.trans hB4, ((HK1.out.trans HK2.out).trans HK5.out).trans hK4, .inr ⟨by
                have := HALL.out
                simp only [List.length_append] at this hr ⊢
                omega, rfl, l', hP4⟩⟩
              clear hB4 hK4 hr hP4
              go_wp2_with fail
              go_meet
              exact ⟨true, rfl, HR⟩
        case rest =>
          obtain ⟨f, rfl, HR⟩ := hcut
          cases f with
          | true =>
            have HO2 := Lib.hid (HR.out.resolve_left (fun h => by cases h.1)).2
            clear HR
            go_wp2_with fail
            go_ret
            exact HO2.out
          | false =>
          obtain ⟨-, hB7, hK7, hP7⟩ := HR.out.resolve_right (fun h => by cases h.1)
          obtain ⟨r0, r1, r2, r3⟩ := HC2.out _ hK7
          have HA := Lib.hid (IH.out B _ pb _ F y1k y1t P1 P2 pn pc pm pe x (HV1.out.keep fun g hg => ⟨hg, hB7.block g (HF.out g hg)⟩) hP7 HF.out (HW.out x HMEM.out) (HSM.out x HMEM.out))
          have HB7 := Lib.hid hB7
          have HK7 := Lib.hid hK7
          clear hB7 hK7 hP7 HR hnm
          go_wp2_with fail
          go_at_call 18
          refine HA.out.mono ?_
          rintro e' w8 ⟨hB8, hK8, ⟨hr, rfl, hP8⟩ | ⟨hr, rfl, l', hP8⟩⟩
          · have hP9 : PR B w8 pb (l ++ partsJ (printJ d) obj ks 0 (xs.take (j + 1))) := by
              rw [HAT.out]
              simpa only [List.append_assoc] using hP8
            have HP9 := Lib.hid hP9
            have HB9 := Lib.hid (HB7.out.trans hB8)
            have HK9 := Lib.hid ((HK2.out.trans HK7.out).trans hK8)
            clear hB8 hK8 hr hP8 hP9 r0 r1 r2 r3
            go_wp2_with fail
            exact ⟨⟨j + 1, by go_num, by omega, HB9.out, HK9.out, HP9.out⟩, by simp [RowKit.intOf]; omega⟩
          · have HO2 : Hid (OutA B pb l (partsJ (printJ d) obj ks 0 xs) W (.returned (.bool false)) w8) := ⟨HB7.out.trans hB8, ((HK1.out.trans HK2.out).trans HK7.out).trans hK8, .inr ⟨by
              have := HALL.out
              simp only [List.length_append] at this hr ⊢
              omega, rfl, l', hP8⟩⟩
            clear hB8 hK8 hr hP8 r0 r1 r2 r3
            go_wp2_with fail
            go_ret
            exact HO2.out
    · have hl : ¬ (j : Int) < (xs.length : Int) := by omega
      have hfin : xs.take j = xs := List.take_of_length_le (by omega)
      rw [hfin] at HP
      have hfit := HP.out.fits
      have HOUT : Hid (OutA B pb l (partsJ (printJ d) obj ks 0 xs) W (.returned (.bool true)) wr) := ⟨HB.out, HK1.out.trans HK.out, .inl ⟨by rw [← List.length_append]; exact hfit, rfl, HP.out⟩⟩
      clear hfin hfit HP
      go_wp2_with fail
      go_ret
      exact HOUT.out
end Go.Proofs.YtmjooghfghmngaaDoor

/- The printer: any value. -/
namespace Go.Proofs.YtmjooghfghmngaaDoor
open Go.RowKit Go.Shelf Go.Lib

set_option maxHeartbeats 4000000 in
set_option maxRecDepth 100000 in
theorem print_of {B : Nat} {W : World} {pb : Nat} {l : List UInt8} (k : Int) (t : ByteArray) (A1 A2 : Option Addr) (n1 c1 n2 c2 : Nat) (tx : List UInt8) (hP : PR B W pb l) (hk : (k = 1 ∨ k = 2 ∨ k = 3 ∨ k = 4 ∨ k = 5) ∨ k = 6 ∨ k = 7)
    (hw : ∀ W' l', Below B W W' → PR B W' pb l' → Calls Tryd.prog 34 #[.pointer (some ⟨pb, 0, none⟩), .agg #[.int .i64 k, .string t, .slice A1 n1 c1, .slice A2 n2 c2]] W' (OutA B pb l' tx W')) :
    Calls Tryd.prog 18 #[.pointer (some ⟨pb, 0, none⟩), .agg #[.int .i64 k, .string t, .slice A1 n1 c1, .slice A2 n2 c2]] W (OutA B pb l
      (if k = 1 then [110, 117, 108, 108] else if k = 2 then [102, 97, 108, 115, 101] else if k = 3 then [116, 114, 117, 101] else if k = 4 then t.data.toList else if k = 5 then quotedL t
    else if k = 6 then [91] ++ (tx ++ [93]) else [123] ++ (tx ++ [125])) W) := by
  have hbs : B ≤ W.heap.size := by
    obtain ⟨v, hb, _⟩ := hP.own
    exact Nat.le_trans hP.low (Nat.le_of_lt (blk_lt hb))
  have hpb : pb < W.heap.size := by
    obtain ⟨v, hb, _⟩ := hP.own
    exact blk_lt hb
  have hb1 : Below W.heap.size W (W.alloc (Obj.cells #[.int .i64 k, .string t, .slice A1 n1 c1, .slice A2 n2 c2] 25)) := by go_grown
  have h0 := heap_alloc_new W (Obj.cells #[.int .i64 k, .string t, .slice A1 n1 c1, .slice A2 n2 c2] 25)
  have HP1 := Lib.hid (hP.on hb1)
  have HK1 : Hid (Kept pb W (W.alloc (Obj.cells #[.int .i64 k, .string t, .slice A1 n1 c1, .slice A2 n2 c2] 25))) := Kept.below hb1
  have HBB := Lib.hid (hb1.mono hbs)
  have HW := Lib.hid hw
  have HC : Hid (∀ wr, Kept pb (W.alloc (Obj.cells #[.int .i64 k, .string t, .slice A1 n1 c1, .slice A2 n2 c2] 25)) wr → (wr.cell? ⟨W.heap.size, 0, none⟩ = some (.int .i64 k) ∧ wr.cell? ⟨W.heap.size, 1, none⟩ = some (.string t) ∧ wr.cell? ⟨W.heap.size, 2, none⟩ = some (.slice A1 n1 c1) ∧ wr.cell? ⟨W.heap.size, 3, none⟩ = some (.slice A2 n2 c2))) := fun wr hk => by
    have hh := hk.2 _ _ h0 (by omega) (fun cur fr e => by cases e)
    exact ⟨blk_cell hh 0, blk_cell hh 1, blk_cell hh 2, blk_cell hh 3⟩
  clear hbs hpb hb1 h0 hP hw
  rcases hk with (rfl | rfl | rfl | rfl | rfl) | rfl | rfl
  · have HA := Lib.hid (add_any HP1.out ⟨#[110, 117, 108, 108]⟩)
    clear HC HW
    refine (?_ : Calls Tryd.prog 18 _ W (OutA B pb l [110, 117, 108, 108] W))
    go_enter Tryd.func18, Tryd.ntmps18
    go_wp2_with fail
    go_at_call 32
    refine HA.out.mono ?_
    rintro e' w2 hO
    have HO : Hid (OutA B pb l [110, 117, 108, 108] W e' w2) := by
      obtain ⟨g1, g2, g3⟩ := hO
      exact ⟨HBB.out.trans g1, HK1.out.trans g2, g3⟩
    obtain ⟨_, _, ⟨_, rfl, _⟩ | ⟨_, rfl, _⟩⟩ := hO
    · go_wp2_with fail
      go_ret
      exact HO.out
    · go_wp2_with fail
      go_ret
      exact HO.out
  · have HA := Lib.hid (add_any HP1.out ⟨#[102, 97, 108, 115, 101]⟩)
    clear HC HW
    refine (?_ : Calls Tryd.prog 18 _ W (OutA B pb l [102, 97, 108, 115, 101] W))
    go_enter Tryd.func18, Tryd.ntmps18
    go_wp2_with fail
    go_at_call 32
    refine HA.out.mono ?_
    rintro e' w2 hO
    have HO : Hid (OutA B pb l [102, 97, 108, 115, 101] W e' w2) := by
      obtain ⟨g1, g2, g3⟩ := hO
      exact ⟨HBB.out.trans g1, HK1.out.trans g2, g3⟩
    obtain ⟨_, _, ⟨_, rfl, _⟩ | ⟨_, rfl, _⟩⟩ := hO
    · go_wp2_with fail
      go_ret
      exact HO.out
    · go_wp2_with fail
      go_ret
      exact HO.out
  · have HA := Lib.hid (add_any HP1.out ⟨#[116, 114, 117, 101]⟩)
    clear HC HW
    refine (?_ : Calls Tryd.prog 18 _ W (OutA B pb l [116, 114, 117, 101] W))
    go_enter Tryd.func18, Tryd.ntmps18
    go_wp2_with fail
    go_at_call 32
    refine HA.out.mono ?_
    rintro e' w2 hO
    have HO : Hid (OutA B pb l [116, 114, 117, 101] W e' w2) := by
      obtain ⟨g1, g2, g3⟩ := hO
      exact ⟨HBB.out.trans g1, HK1.out.trans g2, g3⟩
    obtain ⟨_, _, ⟨_, rfl, _⟩ | ⟨_, rfl, _⟩⟩ := hO
    · go_wp2_with fail
      go_ret
      exact HO.out
    · go_wp2_with fail
      go_ret
      exact HO.out
  · have HA := Lib.hid (add_any HP1.out t)
    clear HC HW
    refine (?_ : Calls Tryd.prog 18 _ W (OutA B pb l t.data.toList W))
    go_enter Tryd.func18, Tryd.ntmps18
    go_wp2_with fail
    go_at_call 32
    refine HA.out.mono ?_
    rintro e' w2 hO
    have HO : Hid (OutA B pb l t.data.toList W e' w2) := by
      obtain ⟨g1, g2, g3⟩ := hO
      exact ⟨HBB.out.trans g1, HK1.out.trans g2, g3⟩
    obtain ⟨_, _, ⟨_, rfl, _⟩ | ⟨_, rfl, _⟩⟩ := hO
    · go_wp2_with fail
      go_ret
      exact HO.out
    · go_wp2_with fail
      go_ret
      exact HO.out
  · have HA := Lib.hid (quoted_any HP1.out t)
    clear HC HW
    refine (?_ : Calls Tryd.prog 18 _ W (OutA B pb l (quotedL t) W))
    go_enter Tryd.func18, Tryd.ntmps18
    go_wp2_with fail
    go_at_call 33
    refine HA.out.mono ?_
    rintro e' w2 hO
    have HO : Hid (OutA B pb l (quotedL t) W e' w2) := by
      obtain ⟨g1, g2, g3⟩ := hO
      exact ⟨HBB.out.trans g1, HK1.out.trans g2, g3⟩
    obtain ⟨_, _, ⟨_, rfl, _⟩ | ⟨_, rfl, _⟩⟩ := hO
    · go_wp2_with fail
      go_ret
      exact HO.out
    · go_wp2_with fail
      go_ret
      exact HO.out
  · have HA := Lib.hid (add_any HP1.out ⟨#[91]⟩)
    refine (?_ : Calls Tryd.prog 18 _ W (OutA B pb l ([91] ++ (tx ++ [93])) W))
    go_enter Tryd.func18, Tryd.ntmps18
    go_wp2_with fail
    go_at_call 32
    refine HA.out.mono ?_
    rintro e' w2 ⟨hB2, hK2, ⟨hr, rfl, hP2⟩ | ⟨hr, rfl, l', hP2⟩⟩
    · obtain ⟨q0, q1, q2, q3⟩ := HC.out _ hK2
      have HW2 := Lib.hid (HW.out _ _ (HBB.out.trans hB2) hP2)
      have HB2 := Lib.hid (HBB.out.trans hB2)
      have HK2 := Lib.hid (HK1.out.trans hK2)
      clear hB2 hK2 hr hP2 HC HW
      go_wp2_with fail
      go_at_call 34
      refine HW2.out.mono ?_
      rintro e' w3 ⟨hB3, hK3, ⟨hr, rfl, hP3⟩ | ⟨hr, rfl, l', hP3⟩⟩
      · have HA2 := Lib.hid (add_any hP3 ⟨#[93]⟩)
        have HB3 := Lib.hid (HB2.out.trans hB3)
        have HK3 := Lib.hid (HK2.out.trans hK3)
        clear hB3 hK3 hr hP3 q0 q1 q2 q3
        go_wp2_with fail
        go_at_call 32
        refine HA2.out.mono ?_
        rintro e' w4 hO
        have HO : Hid (OutA B pb l ([91] ++ (tx ++ [93])) W e' w4) := by
          obtain ⟨g1, g2, ⟨g3, g4, g5⟩ | ⟨g3, g4, g5⟩⟩ := hO
          · exact ⟨HB3.out.trans g1, HK3.out.trans g2, .inl ⟨by simp only [List.length_append] at g3 ⊢; omega, g4, by simpa only [List.append_assoc] using g5⟩⟩
          · exact ⟨HB3.out.trans g1, HK3.out.trans g2, .inr ⟨by simp only [List.length_append] at g3 ⊢; omega, g4, g5⟩⟩
        obtain ⟨_, _, ⟨_, rfl, _⟩ | ⟨_, rfl, _⟩⟩ := hO
        · go_wp2_with fail
          go_ret
          exact HO.out
        · go_wp2_with fail
          go_ret
          exact HO.out
      · have HO : Hid (OutA B pb l ([91] ++ (tx ++ [93])) W (.returned (.bool false)) w3) := ⟨HB2.out.trans hB3, HK2.out.trans hK3, .inr ⟨by simp only [List.length_append] at hr ⊢; omega, rfl, l', hP3⟩⟩
        clear hB3 hK3 hr hP3 q0 q1 q2 q3
        go_wp2_with fail
        go_ret
        exact HO.out
    · have HO : Hid (OutA B pb l ([91] ++ (tx ++ [93])) W (.returned (.bool false)) w2) := ⟨HBB.out.trans hB2, HK1.out.trans hK2, .inr ⟨by simp only [List.length_append, List.length_cons, List.length_nil] at hr ⊢; omega, rfl, l', hP2⟩⟩
      clear hB2 hK2 hr hP2 HC HW
      go_wp2_with fail
      go_ret
      exact HO.out
  · have HA := Lib.hid (add_any HP1.out ⟨#[123]⟩)
    refine (?_ : Calls Tryd.prog 18 _ W (OutA B pb l ([123] ++ (tx ++ [125])) W))
    go_enter Tryd.func18, Tryd.ntmps18
    go_wp2_with fail
    go_at_call 32
    refine HA.out.mono ?_
    rintro e' w2 ⟨hB2, hK2, ⟨hr, rfl, hP2⟩ | ⟨hr, rfl, l', hP2⟩⟩
    · obtain ⟨q0, q1, q2, q3⟩ := HC.out _ hK2
      have HW2 := Lib.hid (HW.out _ _ (HBB.out.trans hB2) hP2)
      have HB2 := Lib.hid (HBB.out.trans hB2)
      have HK2 := Lib.hid (HK1.out.trans hK2)
      clear hB2 hK2 hr hP2 HC HW
      go_wp2_with fail
      go_at_call 34
      refine HW2.out.mono ?_
      rintro e' w3 ⟨hB3, hK3, ⟨hr, rfl, hP3⟩ | ⟨hr, rfl, l', hP3⟩⟩
      · have HA2 := Lib.hid (add_any hP3 ⟨#[125]⟩)
        have HB3 := Lib.hid (HB2.out.trans hB3)
        have HK3 := Lib.hid (HK2.out.trans hK3)
        clear hB3 hK3 hr hP3 q0 q1 q2 q3
        go_wp2_with fail
        go_at_call 32
        refine HA2.out.mono ?_
        rintro e' w4 hO
        have HO : Hid (OutA B pb l ([123] ++ (tx ++ [125])) W e' w4) := by
          obtain ⟨g1, g2, ⟨g3, g4, g5⟩ | ⟨g3, g4, g5⟩⟩ := hO
          · exact ⟨HB3.out.trans g1, HK3.out.trans g2, .inl ⟨by simp only [List.length_append] at g3 ⊢; omega, g4, by simpa only [List.append_assoc] using g5⟩⟩
          · exact ⟨HB3.out.trans g1, HK3.out.trans g2, .inr ⟨by simp only [List.length_append] at g3 ⊢; omega, g4, g5⟩⟩
        obtain ⟨_, _, ⟨_, rfl, _⟩ | ⟨_, rfl, _⟩⟩ := hO
        · go_wp2_with fail
          go_ret
          exact HO.out
        · go_wp2_with fail
          go_ret
          exact HO.out
      · have HO : Hid (OutA B pb l ([123] ++ (tx ++ [125])) W (.returned (.bool false)) w3) := ⟨HB2.out.trans hB3, HK2.out.trans hK3, .inr ⟨by simp only [List.length_append] at hr ⊢; omega, rfl, l', hP3⟩⟩
        clear hB3 hK3 hr hP3 q0 q1 q2 q3
        go_wp2_with fail
        go_ret
        exact HO.out
    · have HO : Hid (OutA B pb l ([123] ++ (tx ++ [125])) W (.returned (.bool false)) w2) := ⟨HBB.out.trans hB2, HK1.out.trans hK2, .inr ⟨by simp only [List.length_append, List.length_cons, List.length_nil] at hr ⊢; omega, rfl, l', hP2⟩⟩
      clear hB2 hK2 hr hP2 HC HW
      go_wp2_with fail
      go_ret
      exact HO.out
theorem print_at : ∀ d : Nat, PrintAt d
  | 0 => fun _ _ _ _ _ _ _ _ _ _ _ _ _ _ h => h.elim
  | d + 1 => fun B W pb l F k t A1 A2 n1 c1 n2 c2 x hV hP hF hw hT => by
    have IH := print_at d
    obtain ⟨k', t', ks, xs⟩ := x
    have hVV := hV
    obtain ⟨e1, e2, ⟨B1, b1, e3, hc1, hk1⟩, B2, b2, e4, hc2, hx1⟩ := hV
    simp only [Value.slice.injEq] at e1 e2 e3 e4
    obtain ⟨rfl, rfl, rfl⟩ := e3
    obtain ⟨rfl, rfl, rfl⟩ := e4
    subst e1 e2
    obtain ⟨hl, hkd, hws⟩ := hw
    obtain ⟨ht, h2, h3, h4, h5⟩ := hT
    have hp := print_of k' t' A1 A2 _ c1 _ c2 (partsJ (printJ d) (k' == 7) ks 0 xs) hP hkd (fun W' l' hb hP' => by
      obtain ⟨-, -, ⟨B1, b1, e3, hc1, hk1⟩, B2, b2, e4, hc2, hx1⟩ := hVV.keep (fun g hg => ⟨hg, hb.block g (hF g hg)⟩)
      simp only [Value.slice.injEq] at e3 e4
      obtain ⟨rfl, -, -⟩ := e3
      obtain ⟨rfl, -, -⟩ := e4
      exact print_within IH hP' hk1 hx1 hF h4 hws h5 (k' == 7) rfl (fun h => hl (by simpa using h)))
    have e : printJ (d + 1) (.mk k' t' ks xs) = (if k' = 1 then [110, 117, 108, 108] else if k' = 2 then [102, 97, 108, 115, 101] else if k' = 3 then [116, 114, 117, 101] else if k' = 4 then t'.data.toList else if k' = 5 then quotedL t'
        else if k' = 6 then [91] ++ (partsJ (printJ d) (k' == 7) ks 0 xs ++ [93]) else [123] ++ (partsJ (printJ d) (k' == 7) ks 0 xs ++ [125])) := by
      rcases hkd with (rfl | rfl | rfl | rfl | rfl) | rfl | rfl <;> rfl
    rw [e]
    exact hp
end Go.Proofs.YtmjooghfghmngaaDoor

/- Print, of any value. -/
namespace Go.Proofs.YtmjooghfghmngaaDoor
open Go.RowKit Go.Shelf Go.Lib

theorem wj_of : ∀ (d n : Nat) (x : JV), soundJ n x = true → WJ d x
  | 0, _, _, _ => trivial
  | d + 1, n, .mk k t ks xs, h => by
    have hh : ∃ wi, headJ k t ks.length xs.length wi = true ∧ (wi = true → ∀ x ∈ xs, WJ d x) := by
      cases n with
      | zero => exact ⟨false, h, fun h => by cases h⟩
      | succ n =>
        refine ⟨_, h, fun hw x hx => ?_⟩
        rw [Bool.and_eq_true, List.all_eq_true, List.all_eq_true] at hw
        exact wj_of d n x (hw.2 x hx)
    obtain ⟨wi, h1, h2⟩ := hh
    have hnil : (ks.length == 0 && xs.length == 0) = true → ∀ x ∈ xs, WJ d x := fun h0 x hx => by
      simp only [Bool.and_eq_true, beq_iff_eq] at h0
      rw [List.eq_nil_of_length_eq_zero h0.2] at hx
      cases hx
    unfold headJ at h1
    by_cases k1 : k = 1 ∨ k = 2 ∨ k = 3
    · rw [if_pos k1, Bool.and_eq_true] at h1
      exact ⟨fun h => by omega, .inl (by omega), hnil h1.2⟩
    rw [if_neg k1] at h1
    by_cases k4 : k = 4
    · rw [if_pos k4, Bool.and_eq_true] at h1
      exact ⟨fun h => by omega, .inl (by omega), hnil h1.2⟩
    rw [if_neg k4] at h1
    by_cases k5 : k = 5
    · rw [if_pos k5, Bool.and_eq_true] at h1
      exact ⟨fun h => by omega, .inl (by omega), hnil h1.2⟩
    rw [if_neg k5] at h1
    by_cases k6 : k = 6
    · rw [if_pos k6, Bool.and_eq_true, Bool.and_eq_true] at h1
      exact ⟨fun h => by omega, .inr (.inl k6), h2 h1.2.2⟩
    rw [if_neg k6] at h1
    by_cases k7 : k = 7
    · rw [if_pos k7, Bool.and_eq_true, Bool.and_eq_true, beq_iff_eq] at h1
      exact ⟨fun _ => h1.2.1, .inr (.inr k7), h2 h1.2.2⟩
    rw [if_neg k7] at h1
    cases h1
/-- What Print answers. -/
def Shows (d : Nat) (x : JV) (e : Ending) (w' : World) : Prop :=
  (soundJ 32 x = false ∧ e = .returned (.tuple #[.slice none 0 0, .int .i64 2])) ∨
  (soundJ 32 x = true ∧ 262144 < (printJ d x).length ∧ e = .returned (.tuple #[.slice none 0 0, .int .i64 12])) ∨
  (soundJ 32 x = true ∧ (printJ d x).length ≤ 262144 ∧ ∃ P p, e = .returned (.tuple #[.slice P (printJ d x).length p, .int .i64 0]) ∧ Lib.BytesAt w' P (printJ d x).length (printJ d x) ∧ (∀ ad, P = some ad → ad.block < w'.heap.size) ∧ (printJ d x).length ≤ p ∧ p ≤ maxLen)
set_option maxHeartbeats 2000000 in
set_option maxRecDepth 100000 in
theorem Print_any {w : World} {F : Nat → Prop} {d : Nat} (k : Int) (t : ByteArray) (A1 A2 : Option Addr) (n1 c1 n2 c2 : Nat) (x : JV) (hV : VAt w F d ⟨k, t, .slice A1 n1 c1, .slice A2 n2 c2⟩ x) (hE : Env w) (hF : ∀ g, F g → g < w.heap.size) (hT : TM d x) :
    Calls Tryd.prog 9 #[.agg #[.int .i64 k, .string t, .slice A1 n1 c1, .slice A2 n2 c2]] w fun e w' => Shows d x e w' ∧ Below w.heap.size w w' := by
  have hB1 : Below w.heap.size w (w.alloc (Obj.cells #[.int .i64 k, .string t, .slice A1 n1 c1, .slice A2 n2 c2] 25)) := by go_grown
  have hS := sound_any 32 (by omega) (w.alloc (Obj.cells #[.int .i64 k, .string t, .slice A1 n1 c1, .slice A2 n2 c2] 25)) F d k t A1 A2 n1 c1 n2 c2 x (hV.keep fun g hg => ⟨hg, hB1.block g (hF g hg)⟩) (hE.on hB1) (fun g hg => Nat.lt_of_lt_of_le (hF g hg) hB1.size) hT
  rw [show ((32 : Nat) : Int) = 32 from rfl] at hS
  have HS := Lib.hid hS
  have HB1 := Lib.hid hB1
  clear hS
  cases hv : soundJ 32 x with
  | false =>
    rw [hv] at HS
    have HSH : Hid (∀ w', Shows d x (.returned (.tuple #[.slice none 0 0, .int .i64 2])) w') := fun w' => .inl ⟨hv, rfl⟩
    clear hB1 hE hv hV hF hT
    go_enter Tryd.func9, Tryd.ntmps9
    go_wp2_with (go_at_call 17; (with_reducible refine HS.out.mono ?_); rintro e' w2 ⟨rfl, hb2⟩; have HB2 := Lib.hid (HB1.out.trans (hb2.mono HB1.out.size)); clear hb2)
    go_ret2
    exact ⟨HSH.out _, HB2.out⟩
  | true =>
    rw [hv] at HS
    have HWJ := Lib.hid (wj_of d 32 x hv)
    have HV := Lib.hid hV
    have HF := Lib.hid hF
    have HT := Lib.hid hT
    have HSO := Lib.hid hv
    have h0 := heap_alloc_new w (Obj.cells #[.int .i64 k, .string t, .slice A1 n1 c1, .slice A2 n2 c2] 25)
    have HX := Lib.hid (fun W (hb : Below (w.alloc (Obj.cells #[.int .i64 k, .string t, .slice A1 n1 c1, .slice A2 n2 c2] 25)).heap.size (w.alloc (Obj.cells #[.int .i64 k, .string t, .slice A1 n1 c1, .slice A2 n2 c2] 25)) W) => (hb.block _ (blk_lt h0)).trans h0)
    clear hB1 hE hv hV hF hT h0
    go_enter Tryd.func9, Tryd.ntmps9
    go_wp2_with (go_at_call 17; (with_reducible refine HS.out.mono ?_); rintro e' w2 ⟨rfl, hb2⟩; have hw3 := hb2.alloc hb2.size (Obj.cells #[.slice none 0 0] 45 (0, 0)); have hbk := HX.out _ hw3; have q0 := (blk_cell hbk 0 : (w2.alloc (Obj.cells #[.slice none 0 0] 45 (0, 0))).cell? ⟨w.heap.size, 0, none⟩ = some (.int .i64 k)); have q1 := (blk_cell hbk 1 : (w2.alloc (Obj.cells #[.slice none 0 0] 45 (0, 0))).cell? ⟨w.heap.size, 1, none⟩ = some (.string t)); have q2 := (blk_cell hbk 2 : (w2.alloc (Obj.cells #[.slice none 0 0] 45 (0, 0))).cell? ⟨w.heap.size, 2, none⟩ = some (.slice A1 n1 c1)); have q3 := (blk_cell hbk 3 : (w2.alloc (Obj.cells #[.slice none 0 0] 45 (0, 0))).cell? ⟨w.heap.size, 3, none⟩ = some (.slice A2 n2 c2)); have HB3 := Lib.hid (HB1.out.trans (hw3.mono HB1.out.size)); have HPR := Lib.hid (PR.new (w := w2)); have hsz2 := Nat.le_trans HB1.out.size hb2.size; have HSZ := Lib.hid hsz2; clear hb2 hw3 hbk hsz2)
    go_at_call 18
    refine (print_at d _ _ _ _ F k t A1 A2 n1 c1 n2 c2 x (HV.out.keep fun g hg => ⟨hg, HB3.out.block g (HF.out g hg)⟩) HPR.out (fun g hg => Nat.lt_of_lt_of_le (HF.out g hg) HSZ.out) HWJ.out HT.out).mono ?_
    rintro e' w4 ⟨hB4, hK4, ⟨hr, rfl, hP4⟩ | ⟨hr, rfl, l', hP4⟩⟩
    · rw [List.nil_append] at hP4
      obtain ⟨P, p, r0, hY, hb, hl, hm⟩ := hP4.at
      have HY := Lib.hid hY
      have Hb := Lib.hid hb
      have HL := Lib.hid hl
      have HM := Lib.hid hm
      have HR : Hid ((printJ d x).length ≤ 262144) := Lib.hid (by simpa using hr)
      have HB4 := Lib.hid (HB3.out.trans (hB4.mono HSZ.out))
      clear hY hb hl hm hB4 hK4 hP4 hr q0 q1 q2 q3
      go_wp2_with fail
      go_ret2
      exact ⟨.inr (.inr ⟨HSO.out, HR.out, P, p, rfl, HY.out, Hb.out, HL.out, HM.out⟩), HB4.out⟩
    · have HR : Hid (262144 < (printJ d x).length) := Lib.hid (by simpa using hr)
      have HB4 := Lib.hid (HB3.out.trans (hB4.mono HSZ.out))
      clear hB4 hK4 hP4 hr q0 q1 q2 q3
      go_wp2_with fail
      go_ret2
      exact ⟨.inr (.inl ⟨HSO.out, HR.out, rfl⟩), HB4.out⟩
end Go.Proofs.YtmjooghfghmngaaDoor
