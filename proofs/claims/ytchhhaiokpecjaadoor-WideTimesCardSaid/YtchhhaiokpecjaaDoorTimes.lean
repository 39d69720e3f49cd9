/- The law WideTimes: a number so and so many times is the product; and its digits are those of the number itself. -/
import Derived.Test.YtchhhaiokpecjaaDoorTotal
import Derived.Test.YtchhhaiokpecjaaDoorNums
import Derived.Deep.DeepCutAuto
namespace Go.Proofs.YtchhhaiokpecjaaDoor.wideTimes
open Go.RowKit Go.Proofs.YtchhhaiokpecjaaDoor.wideTotal

theorem flat_append : ∀ (ps qs : List (Int × Int)), flat (ps ++ qs) = flat ps ++ flat qs
  | [], _ => rfl
  | p :: ps, qs => by simp [flat, flat_append ps qs]
theorem flat_snoc (n : Nat) (p : Int × Int) : flat (List.replicate n p) ++ [.int .i64 p.1, .int .u64 p.2] = flat (List.replicate (n + 1) p) := by
  rw [List.replicate_succ', flat_append]; rfl

theorem owns_on {w w' : World} {B : Nat} {e : TypeId} {size n : Nat} {v : Value} {xs : List Value} (h : w.ownsRow B e size v n xs) (hb : Below w.heap.size w w') : w'.ownsRow B e size v n xs := by
  obtain ⟨hl, h | ⟨g, cap, cur, rfl, hbg, hg, hr⟩⟩ := h
  · exact ⟨hl, Or.inl h⟩
  · exact ⟨hl, Or.inr ⟨g, cap, cur, rfl, hbg, (hb.block g (blk_lt hg)).trans hg, hr⟩⟩
theorem pair_news (w : World) (a b : Value) : ∀ j u, [a, b][j]? = some u → (w.alloc (Obj.cells #[a, b] 25)).cell? ((⟨w.heap.size, 0, none⟩ : Addr).add j) = some u := by
  intro j u hj
  rw [Lib.add_plain, blk_cell (heap_alloc_new w _)]
  simpa using hj

theorem Below.drewN' {B : Nat} {a w : World} (h : Below B a w) (n : Nat) : Below B a (w.drewN n) := below_drewN' h n
/-- Digits that a number may have. -/
def Good (s : ByteArray) : Prop := 0 < s.size ∧ s.size < 18 ∧ (s.data.toList = [48] ∨ s.data.toList.head? ≠ some 48)

theorem not_zero {s : ByteArray} (h : ¬ s = ⟨#[48]⟩) : (s.toList == [48]) = false := by
  rw [ByteArray.toList_eq, beq_eq_false_iff_ne]
  exact fun e => h (Go.WideShapes.bytes_inj e)
theorem byte_at (s : ByteArray) (j : Nat) (h : j < s.size) : s.data.toList[j]? = some (s[j]'h) := by
  rw [Array.getElem?_toList]
  exact Array.getElem?_eq_getElem h
theorem first_byte {P : Program} (s : ByteArray) (h : 0 < s.size) (w : World) (ht : P.underlying 9 = some .string := by exact Tryd.underlying9) : (Instr.index 9 (.string s) (.int .i64 0)).run P w = .ok (.int .u8 (s[0]'h).toNat) w := by
  rw [run_index_string w _ s .i64 0 ht, dif_pos ⟨by omega, by omega⟩]
  rfl
theorem head_ne {s : ByteArray} {h : 0 < s.size} {d : UInt8} (hd : s[0]'h = d) (hne : d ≠ 48) : s.data.toList.head? ≠ some 48 := by
  rw [List.head?_eq_getElem?, byte_at s 0 h, hd]
  simpa using hne
theorem any_byte {P : Program} (s : ByteArray) (j : Nat) (h : j < s.size) (w : World) (ht : P.underlying 9 = some .string := by exact Tryd.underlying9) : (Instr.index 9 (.string s) (.int .i64 j)).run P w = .ok (.int .u8 (s[j]'h).toNat) w := by
  rw [run_index_string w _ s .i64 j ht, dif_pos ⟨by omega, by omega⟩]
  rfl
/-- What the digits so far tell. -/
def Told (s : ByteArray) (j : Nat) (nv : Int) : Prop := Good s ∧ nv = (num (s.data.toList.take j) : Nat) ∧ ∀ d ∈ s.data.toList.take j, isDigit d
theorem Told.start {s : ByteArray} (h : Good s) : Told s 0 0 := ⟨h, by simp [num], by simp⟩
theorem told_take {s : ByteArray} {j : Nat} (h : j < s.size) : s.data.toList.take (j + 1) = s.data.toList.take j ++ [s[j]'h] := by
  rw [List.take_add_one, byte_at s j h]; rfl
theorem Told.next {s : ByteArray} {j : Nat} {nv : Int} (h : Told s j nv) (hj : j < s.size) {d : UInt8} (hd : s[j]'hj = d) (h0 : 48 ≤ d.toNat) (h1 : d.toNat ≤ 57) : Told s (j + 1) (nv * 10 + d.toNat - 48) := by
  obtain ⟨hg, hn, ha⟩ := h
  refine ⟨hg, ?_, fun x hx => ?_⟩
  · rw [told_take hj, hd, num_snoc, hn]
    omega
  · rw [told_take hj, hd] at hx
    rcases List.mem_append.1 hx with hx | hx
    · exact ha x hx
    · obtain rfl : x = d := by simpa using hx
      exact ⟨h0, h1⟩
theorem Told.bound {s : ByteArray} {j : Nat} {nv : Int} (h : Told s j nv) (hj : j ≤ s.size) : 0 ≤ nv ∧ nv < 100000000000000000 := by
  obtain ⟨⟨-, hs, -⟩, hn, ha⟩ := h
  have hl : (s.data.toList.take j).length = j := by
    rw [List.length_take, Array.length_toList]
    exact Nat.min_eq_left hj
  have h1 := num_lt j _ hl ha
  have h2 : 10 ^ j ≤ 10 ^ 17 := Nat.pow_le_pow_right (by decide) (by omega)
  have h3 : (10 : Nat) ^ 17 = 100000000000000000 := by decide
  omega
theorem Told.done {s : ByteArray} {nv : Int} (h : Told s s.size nv) : (⟨(digs (hiOf nv) (loOf nv)).toArray⟩ : ByteArray) = s := by
  have hb := h.bound (Nat.le_refl _)
  obtain ⟨⟨h0, hs, hg⟩, hn, ha⟩ := h
  have hl : s.data.toList.length = s.size := Array.length_toList
  rw [List.take_of_length_le (by omega)] at hn ha
  have hd := digits_num (s.size - 1) s.data.toList (by omega) ha hg
  apply Go.WideShapes.bytes_inj
  have hv : val (hiOf nv) (loOf nv) = nv := val_of nv
  unfold digs Lib.itoa
  rw [hv, if_neg (by omega), hn, Int.toNat_natCast, hd]

set_option maxRecDepth 100000 in
set_option maxHeartbeats 2000000 in
theorem law_walk (x : Int) (h1 : -9223372036854775808 ≤ x) (h2 : x ≤ 9223372036854775807) (t : Nat) (ht : t ≤ 255) (s : ByteArray) (hs : s.size ≤ maxLen) (w : World) (htab : Lib.TabBelow Tryd.prog w.heap.size w "internal/strconv.uint64pow10" .u64 Lib.pow10Tab) :
    Calls Tryd.prog 9 #[.int .i64 x, .int .u8 t, .string s] w fun e w' => e = .returned (.bool true) ∧ Below w.heap.size w w' := by
  obtain ⟨i0, hi, hz0, hz1, hz2⟩ := info_parts infoI
  have C1 := Lib.hid (fun W => of_any x W h1 h2)
  have C2 := Lib.hid (fun W => mul_any x t W h1 h2 (by omega) (by omega))
  have HX := Lib.hid (show InR x by unfold InR; omega)
  have HP := Lib.hid (times_tot x h1 h2 t ht)
  have HL := Lib.hid hs
  have HTb := Lib.hid htab
  have HT := Lib.hid ht
  clear h1 h2 hs htab
  go_enter Tryd.func9, Tryd.ntmps9
  go_upto_block 0 with (fail)
  go_cut [7] (fun s7 wx => wx.ownsRow w.heap.size 25 2 s7 t (flat (List.replicate t (hiOf x, loOf x))) ∧ Below w.heap.size w wx)
  case first =>
    go_wp2_with fail
    go_loopg [7, 8] t (fun k v i wr => ∃ n : Nat, n ≤ t ∧ k = t - n ∧ i = .int .i64 n ∧ wr.ownsRow w.heap.size 25 2 v n (flat (List.replicate n (hiOf x, loOf x))) ∧ Below w.heap.size w wr)
    case atStart => exact ⟨0, by omega, rfl, rfl, World.ownsRow_nil w _ _ _, Below.refl _ _⟩
    case round =>
      obtain ⟨n, hn, hk, rfl, hown, hB⟩ := hrel
      have hk' := Lib.hid hk
      clear hk
      by_cases hlt : n < t
      · have b0 : (0 : Int) ≤ (n : Int) := by omega
        have b1 : (n : Int) < (t : Int) := by omega
        have b2 : (t : Int) ≤ 255 := by omega
        have HO := Lib.hid hown
        have HB := Lib.hid hB
        clear hown hB
        go_wp2_with fail
        go_at_call 11
        refine (C1.out _).mono ?_
        rintro e w1 ⟨rfl, hB1⟩
        have hown1 := owns_on HO.out hB1
        have HB1 := Lib.hid (HB.out.trans (hB1.mono HB.out.size))
        clear hB1
        go_wp2_with (at_builtin; refine wpList_append_own _ rfl _ _ 35 rfl w.heap.size 25 i0 (.agg #[.int .i64 0, .int .u64 0]) 2 16 Tryd.underlying35 hi hz0 hz1 hz2 rfl (by decide) _ n _ rfl (hown1.alloc _) ⟨w1.heap.size, 0, none⟩ 1 1 [.int .i64 (hiOf x), .int .u64 (loOf x)] rfl rfl (pair_news _ _ _) (fun u hu => (by simp only [List.mem_cons, List.not_mem_nil, or_false] at hu; rcases hu with rfl | rfl <;> rfl)) (by unfold maxLen; omega) (by omega) (by have := HB1.out.size; simp; omega) ?_; intro v' w2 hown2 hgrow2 _)
        have hx := flat_snoc n (hiOf x, loOf x)
        simp only at hx
        rw [hx] at hown2
        have HB2 := grown_below (HB1.out.alloc HB1.out.size _) hgrow2 (fun k e => (hown1.lt k e).1)
        clear hown1 hx hgrow2
        go_wp2
        go_roundg (t - (n + 1))
        case measure => rw [hk'.out]; omega
        case rel => exact ⟨n + 1, by omega, rfl, by go_num, hown2, HB2⟩
      · obtain rfl : n = t := by omega
        go_wp2_with fail
        go_meet
        exact ⟨hown, hB⟩
  case rest =>
    obtain ⟨hown, hB⟩ := hcut
    obtain ⟨A, cap, rfl, hp⟩ := own_pairs (ps := List.replicate t (hiOf x, loOf x)) (by rw [List.length_replicate]; exact hown)
    have HPp := Lib.hid hp
    have HB := Lib.hid hB
    clear hp hown hB
    have T1 := fun W hW => total_any (List.replicate t (hiOf x, loOf x)) A cap W (by rw [List.length_replicate]; unfold maxLen; omega) hW (fun p hp => (by obtain ⟨-, rfl⟩ := List.mem_replicate.1 hp; exact wf_of HX.out))
    rw [List.length_replicate, HP.out.1, HP.out.2.1, HP.out.2.2] at T1
    have HT1 := Lib.hid T1
    clear T1 C1 HP HX
    go_wp2_with fail
    go_at_call 19
    refine (HT1.out _ HPp.out).mono ?_
    rintro e w3 ⟨rfl, hB3⟩
    have HQ := Has.new (w := w) (L := []) ⟨HB.out.trans (hB3.mono HB.out.size), fun _ h => by cases h⟩ (hiOf (x * t)) (loOf (x * t))
    clear hB3 HPp HT1 HB
    go_upto_region 7 with (fail)
    generalize (World.alloc w3 _) = W3 at HQ ⊢
    generalize w3.heap.size = g9 at HQ ⊢
    have C2' := C2.out
    clear C2
    generalize hiOf (x * t) = X at HQ C2' ⊢
    generalize loOf (x * t) = Y at HQ C2' ⊢
    have C2 := Lib.hid C2'
    clear C2'
    have C0 := Lib.hid (fun (W' : World) (h : Has w [(g9, X, Y)] W') => answers_any W' (h.tab HTb.out))
    go_cut [43] (fun s43 wx => s43 = .bool false ∧ Has w [(g9, X, Y)] wx)
    case first =>
      have b2 : (t : Int) ≤ 255 := by omega
      have b0 : (0 : Int) ≤ (t : Int) := by omega
      have hwt : IntKind.i64.wrap (t : Int) = t := by rw [IntKind.wrap_i64]; omega
      go_region_held3 (fun W => W.cell? ⟨g9, 0, none⟩ = some (.int .i64 (X)) ∧ W.cell? ⟨g9, 1, none⟩ = some (.int .u64 (Y)))
        ((first | exact Has.cells1 (by assumption) | exact Has.cells1 (Has.drew (by assumption))))
        (first
          | (go_at_call 10; refine (C0.out _ (by first | assumption | exact Has.drew (by assumption))).mono ?_; rintro e w' ⟨rfl, hB⟩; have HS' := Has.on (by first | assumption | exact Has.drew (by assumption)) hB)
          | (go_at_call 13; (try rw [hwt]); refine (C2.out _).mono ?_; rintro e w' ⟨rfl, hB⟩; have HS' := Has.on (by first | assumption | exact Has.drew (by assumption)) hB))
      all_goals
        go_wp2_with fail
        go_meet
        exact ⟨rfl, by assumption⟩
    case rest =>
      obtain ⟨rfl, HR⟩ := hcut
      have HB := Lib.hid HR.1
      clear HQ C0 C2 HR
      go_upto_region 9 with (fail)
      go_cut [11, 12] (fun s11 s12 wx => ∃ b : Bool, s11 = .int .i64 0 ∧ s12 = .bool b ∧ (b = true → Good s) ∧ Below w.heap.size w wx)
      case first =>
        by_cases hz : s.size = 0
        · have e1 : decide (0 < s.size) = false := by simp [hz]
          clear hz
          go_quiet (fail)
          go_wp2_with fail
          go_meet
          exact ⟨false, rfl, rfl, by simp, Below.drewN' HB.out _⟩
        · have e1 : decide (0 < s.size) = true := decide_eq_true (by omega)
          by_cases hl : s.size < 18
          · have e2 : decide (s.size < 18) = true := decide_eq_true hl
            have e3 : decide ((s.size : Int) < 18) = true := decide_eq_true (by omega)
            by_cases h48 : s = ⟨#[48]⟩
            · subst h48
              clear e1 e2 e3
              go_quiet (fail)
              go_wp2_with fail
              go_meet
              exact ⟨true, rfl, rfl, fun _ => ⟨by decide, by decide, Or.inl rfl⟩, Below.drewN' HB.out _⟩
            · have e4 : (s.toList == [48]) = false := not_zero h48
              have hix := fun W => first_byte (P := Tryd.prog) s (by omega) W
              obtain ⟨d, hd⟩ : ∃ d : UInt8, s[0]'(by omega) = d := ⟨_, rfl⟩
              rw [hd] at hix
              have hG : d ≠ 48 → Good s := fun hne => ⟨by omega, hl, Or.inr (head_ne hd hne)⟩
              have HG := Lib.hid hG
              clear hG hz hl h48 hd
              go_quiet (fail)
              go_wp2
              go_meet
              refine ⟨_, rfl, rfl, fun hb => HG.out ?_, Below.drewN' HB.out _⟩
              rintro rfl
              simp at hb
          · have e2 : decide (s.size < 18) = false := decide_eq_false hl
            have e3 : decide ((s.size : Int) < 18) = false := decide_eq_false (by omega)
            clear hz hl
            go_quiet (fail)
            go_wp2_with fail
            go_meet
            exact ⟨false, rfl, rfl, by simp, Below.drewN' HB.out _⟩
      case rest =>
        obtain ⟨b, rfl, rfl, hG, hB⟩ := hcut
        have hT0 : b = true → Told s 0 0 := fun h => Told.start (hG h)
        have HT0 := Lib.hid hT0
        have HB1 := Lib.hid hB
        clear HB hG hT0 hB
        go_wp2_with fail
        go_loopg [11, 12, 13] s.size (fun k a11 a12 a13 wr => ∃ (j : Nat) (nv : Int) (b : Bool), j ≤ s.size ∧ k = s.size - j ∧ a11 = .int .i64 nv ∧ a12 = .bool b ∧ a13 = .int .i64 j ∧ (b = true → Told s j nv) ∧ Below w.heap.size w wr)
        case atStart => exact ⟨0, 0, b, by omega, rfl, rfl, rfl, rfl, HT0.out, HB1.out⟩
        case round =>
          obtain ⟨j, nv, b, hj, hk, rfl, rfl, rfl, hT, hB⟩ := hrel
          have HK := Lib.hid hk
          have HTo := Lib.hid hT
          have HB := Lib.hid hB
          clear hk hT hB HB1 HT0
          cases b with
          | false =>
            clear HTo
            by_cases hlt : j < s.size
            · have e1 : decide (j < s.size) = true := decide_eq_true hlt
              have e2 : decide ((j : Int) < s.size) = true := decide_eq_true (by omega)
              clear hlt hj
              go_wp2
              go_ret
              exact ⟨rfl, HB.out⟩
            · have e1 : decide (j < s.size) = false := decide_eq_false hlt
              have e2 : decide ((j : Int) < s.size) = false := decide_eq_false (by omega)
              clear hlt hj
              go_wp2
              go_ret
              exact ⟨rfl, HB.out⟩
          | true =>
            have hT := HTo.out rfl
            obtain ⟨n0, n1⟩ := hT.bound hj
            have HD := Lib.hid hT
            clear hT HTo
            by_cases hlt : j < s.size
            · have e1 : decide (j < s.size) = true := decide_eq_true hlt
              have e2 : decide ((j : Int) < s.size) = true := decide_eq_true (by omega)
              have hix := fun W => any_byte (P := Tryd.prog) s j hlt W
              obtain ⟨d, hd⟩ : ∃ d : UInt8, s[j]'hlt = d := ⟨_, rfl⟩
              rw [hd] at hix
              have HX := Lib.hid (fun h0 h1 => HD.out.next hlt hd h0 h1)
              have hs18 : s.size < 18 := HD.out.1.2.1
              have hj18 : (j : Int) < 18 := by omega
              have hj0 : (0 : Int) ≤ (j : Int) := by omega
              have HLT := Lib.hid hlt
              clear hd hlt hj hs18
              have hd256 := d.toNat_lt
              obtain ⟨D, hD⟩ : ∃ D : Nat, d.toNat = D := ⟨_, rfl⟩
              rw [hD] at hix HX hd256
              have hDi : (D : Int) < 256 := by omega
              have hDi0 : (0 : Int) ≤ (D : Int) := by omega
              clear hD hd256
              by_cases h0 : 48 ≤ D
              · have g1 : decide (48 ≤ D) = true := decide_eq_true h0
                have g2 : decide ((48 : Int) ≤ D) = true := decide_eq_true (by omega)
                by_cases h1 : D ≤ 57
                · have g3 : decide (D ≤ 57) = true := decide_eq_true h1
                  have g4 : decide ((D : Int) ≤ 57) = true := decide_eq_true (by omega)
                  have HXX := Lib.hid (HX.out h0 h1)
                  clear h0 h1 HX
                  go_wp2
                  go_roundg (s.size - (j + 1))
                  case measure => rw [HK.out]; have := HLT.out; omega
                  case rel => exact ⟨j + 1, nv * 10 + D - 48, true, by have := HLT.out; omega, rfl, by go_num, rfl, by go_num, fun _ => HXX.out, HB.out⟩
                · have g3 : decide (D ≤ 57) = false := decide_eq_false h1
                  have g4 : decide ((D : Int) ≤ 57) = false := decide_eq_false (by omega)
                  clear h0 h1 HX
                  go_wp2
                  go_roundg (s.size - (j + 1))
                  case measure => rw [HK.out]; have := HLT.out; omega
                  case rel => exact ⟨j + 1, nv * 10 + D - 48, false, by have := HLT.out; omega, rfl, by go_num, rfl, by go_num, (fun h => by cases h), HB.out⟩
              · have g1 : decide (48 ≤ D) = false := decide_eq_false h0
                have g2 : decide ((48 : Int) ≤ D) = false := decide_eq_false (by omega)
                clear h0 HX
                go_wp2
                go_roundg (s.size - (j + 1))
                case measure => rw [HK.out]; have := HLT.out; omega
                case rel => exact ⟨j + 1, nv * 10 + D - 48, false, by have := HLT.out; omega, rfl, by go_num, rfl, by go_num, (fun h => by cases h), HB.out⟩
            · obtain rfl : j = s.size := by omega
              have HE := Lib.hid HD.out.done
              have A1 := Lib.hid (fun W => of_any nv W (by omega) (by omega))
              have A2 := fun W hW => text_any (hiOf nv) (loOf nv) (wf_of (by unfold InR; omega)) W hW
              simp only [HE.out] at A2
              have A3 := Lib.hid A2
              clear A2 hlt HE HD n0 n1
              go_wp2_with fail
              go_at_call 11
              refine (A1.out _).mono ?_
              rintro e w5 ⟨rfl, hB5⟩
              have HB5 := HB.out.trans (hB5.mono HB.out.size)
              go_wp2_with fail
              go_at_call 25
              refine (A3.out _ (fun W' hb => HTb.out W' (HB5.trans (hb.mono HB5.size)))).mono ?_
              rintro e w6 ⟨rfl, hB6⟩
              go_wp2
              go_ret
              exact ⟨rfl, HB5.trans (hB6.mono HB5.size)⟩
theorem law_int (x : Int) (h1 : -9223372036854775808 ≤ x) (h2 : x ≤ 9223372036854775807) (t : Int) (t0 : 0 ≤ t) (t1 : t ≤ 255) (s : ByteArray) (hs : s.size ≤ maxLen) (w : World) (htab : Lib.TabBelow Tryd.prog w.heap.size w "internal/strconv.uint64pow10" .u64 Lib.pow10Tab) :
    Calls Tryd.prog 9 #[.int .i64 x, .int .u8 t, .string s] w fun e w' => e = .returned (.bool true) ∧ Below w.heap.size w w' := by
  obtain ⟨n, rfl⟩ := Int.eq_ofNat_of_zero_le t0
  exact law_walk x h1 h2 n (by omega) s hs w htab
end Go.Proofs.YtchhhaiokpecjaaDoor.wideTimes
