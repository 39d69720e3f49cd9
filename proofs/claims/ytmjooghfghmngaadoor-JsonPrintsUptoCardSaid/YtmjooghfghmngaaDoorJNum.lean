/- Digits, exponents, numbers. -/
import Derived.Test.YtmjooghfghmngaaDoorJRun
namespace Go.Proofs.YtmjooghfghmngaaDoor
open Go.RowKit Go.Shelf Go.Lib

def digB : List UInt8 := [48, 49, 50, 51, 52, 53, 54, 55, 56, 57]
def isD (c : UInt8) : Bool := digB.contains c
/-- The digits with which a text begins, and what is behind them. -/
def dgs (l : List UInt8) : List UInt8 := l.takeWhile isD
def rst (l : List UInt8) : List UInt8 := l.dropWhile isD
theorem dgs_rst (l : List UInt8) : dgs l ++ rst l = l := List.takeWhile_append_dropWhile
theorem dgs_len (l : List UInt8) : (dgs l).length + (rst l).length = l.length := by rw [← List.length_append, dgs_rst]
theorem dgs_take (l : List UInt8) : l.take (dgs l).length = dgs l := (List.prefix_iff_eq_take.1 (List.takeWhile_prefix _)).symm

theorem bytes_of {s : ByteArray} {l : List UInt8} (h : s.data.toList = l) : s = ⟨l.toArray⟩ := by rw [← h, Lib.mk_data]
set_option maxRecDepth 100000 in
theorem trimS_any (s : ByteArray) (cs : List UInt8) (w : World) (hcs : cs.length < 4294967281) (ha : cs.all (fun b => decide (b.toNat < 128)) = true) :
    Calls Tryd.prog 62 #[.string s, .string ⟨cs.toArray⟩] w fun e w' => e = .returned (.string ⟨(Lib.trimLeftS s.data.toList cs).toArray⟩) ∧ Below w.heap.size w w' := by
  have := Any.strings_TrimLeft_ascii Tryd.layTS (zero_of_info tabInfo).1 (zero_of_info tabInfo).2 s ⟨cs.toArray⟩ w (by simpa [ByteArray.size] using hcs) (ascii_of_all (by simpa using ha))
  exact this

set_option maxHeartbeats 1000000 in
theorem cutDigits_any (s : ByteArray) (w : World) (hs : s.size ≤ 9223372036854775807) :
    Calls Tryd.prog 45 #[.string s] w fun e w' => e = .returned (.tuple #[.string ⟨(dgs s.data.toList).toArray⟩, .string ⟨(rst s.data.toList).toArray⟩]) ∧ Below w.heap.size w w' := by
  obtain ⟨R, hR⟩ : ∃ R, R = (⟨(rst s.data.toList).toArray⟩ : ByteArray) := ⟨_, rfl⟩
  have HT : Hid (∀ W, Calls Tryd.prog 62 #[.string s, .string ⟨#[48, 49, 50, 51, 52, 53, 54, 55, 56, 57]⟩] W fun e w' => e = .returned (.string R) ∧ Below W.heap.size W w') := fun W => by rw [hR]; exact trimS_any s digB W (by decide) (by decide)
  have hl := dgs_len s.data.toList
  rw [← Lib.size_eq] at hl
  have hRs : R.size = (rst s.data.toList).length := by rw [hR]; simp [ByteArray.size]
  have hle : R.size ≤ s.size := by omega
  have HL := Lib.hid hl
  have HR := Lib.hid hR
  have HRS := Lib.hid hRs
  clear hl hR hRs
  go_enter Tryd.func45, Tryd.ntmps45
  go_wp2_with (go_at_call 62; (with_reducible refine (HT.out _).mono ?_); rintro e' Wi ⟨rfl, hBi⟩; have HBI := Lib.hid hBi; clear hBi)
  go_ret2
  refine ⟨?_, HBI.out⟩
  rw [show s.extract 0 (s.size - R.size) = ⟨(dgs s.data.toList).toArray⟩ from bytes_of (by
    rw [Lib.extract_data, HRS.out, ← HL.out]
    simp [dgs_take]), HR.out]
  rfl

/-- A text without its sign. -/
def signless : List UInt8 → List UInt8
  | c :: r => if c = 43 ∨ c = 45 then r else c :: r
  | [] => []
/-- Is it an exponent? -/
def expB : List UInt8 → Bool
  | c :: r => (c == 101 || c == 69) && (!(dgs (signless r)).isEmpty && (rst (signless r)).isEmpty)
  | [] => false

theorem cmpE {c : UInt8} (d : UInt8) {k : Int} (h : (d.toNat : Int) = k) : ((c.toNat : Int) == k) = (c == d) := by
  rw [Bool.eq_iff_iff, beq_iff_eq, beq_iff_eq]
  exact ⟨fun e => UInt8.toNat_inj.1 (by omega), fun e => by rw [e]; exact h⟩
theorem cmpN {c : UInt8} (d : UInt8) {k : Int} (h : (d.toNat : Int) = k) : ((c.toNat : Int) != k) = (c != d) := by unfold bne; rw [cmpE d h]

theorem head_of (s : ByteArray) (h : 0 < s.size) : s.data.toList = s[0] :: s.data.toList.drop 1 := by
  obtain ⟨⟨l⟩⟩ := s
  cases l with
  | nil => simp [ByteArray.size] at h
  | cons c r => rfl

def isE (c : UInt8) : Bool := c == 101 || c == 69
def sgB : List UInt8 → Bool
  | c :: _ => c == 43 || c == 45
  | [] => false
theorem signless_sg (l : List UInt8) : signless l = if sgB l then l.drop 1 else l := by
  cases l with
  | nil => rfl
  | cons c r => simp [signless, sgB]
theorem str_empty {s : ByteArray} (h : s.size = 0) : s.toList = [] := by
  rw [Lib.toList_data]
  exact List.eq_nil_of_length_eq_zero (by rw [← Lib.size_eq]; exact h)
theorem str_some {s : ByteArray} (h : 0 < s.size) : s.toList.isEmpty = false ∧ ¬ s.toList = [] := by
  rw [Lib.toList_data, head_of s h]; simp

set_option maxHeartbeats 1000000 in
theorem isExponent_any (s : ByteArray) (w : World) (hs : s.size ≤ 9223372036854775807) (h0 : 0 < s.size) :
    Calls Tryd.prog 48 #[.string s] w fun e w' => e = .returned (.bool (expB s.data.toList)) ∧ Below w.heap.size w w' := by
  have HH := Lib.hid (head_of s h0)
  obtain ⟨x, hx⟩ : ∃ x, x = isE s[0] := ⟨_, rfl⟩
  have HX := Lib.hid hx
  clear hx
  obtain ⟨res, hres⟩ : ∃ r, r = expB s.data.toList := ⟨_, rfl⟩
  rw [← hres]
  have HRES := Lib.hid hres
  clear hres
  go_enter Tryd.func48, Tryd.ntmps48
  go_upto_region 1 with (fail)
  go_cut [13] (fun v wx => v = .bool (!x) ∧ wx = w)
  case first =>
    go_wp2_with fail
    · go_meet
      have hc : s[0] = 101 := UInt8.toNat_inj.1 (show s[0].toNat = (101 : UInt8).toNat by show _ = 101; omega)
      refine ⟨?_, rfl⟩
      rw [HX.out, hc]; rfl
    · go_meet
      refine ⟨?_, rfl⟩
      rw [HX.out, cmpN (k := 101) 101 rfl, cmpN (k := 69) 69 rfl]
      simp [isE, bne]
  case rest =>
    obtain ⟨rfl, rfl⟩ := hcut
    cases x with
    | false =>
      go_wp2_with fail
      go_ret
      refine ⟨?_, Below.refl _ _⟩
      rw [HRES.out, HH.out, expB]
      have := HX.out
      unfold isE at this
      rw [← this]
      simp
    | true =>
      go_upto_region 4 with (fail)
      have hs1 : (s.extract 1 s.size).data.toList = s.data.toList.drop 1 := Lib.extract_to_end s 1
      have hz1 : (s.extract 1 s.size).size ≤ s.size := by rw [Lib.size_eq, hs1, Lib.size_eq]; simp
      generalize s.extract 1 s.size = t at *
      have HS1 := Lib.hid hs1
      clear hs1
      obtain ⟨y, hy⟩ : ∃ y, y = sgB t.data.toList := ⟨_, rfl⟩
      have HY := Lib.hid hy
      clear hy
      go_cut [27] (fun v wx => v = .bool y ∧ wx = wc)
      case first =>
        by_cases ht : t.size = 0
        · have h1 := str_empty ht
          have : y = false := by
            rw [HY.out, show t.data.toList = [] by rw [← Lib.toList_data, h1]]; rfl
          subst this
          have h2 : t.toList.isEmpty = true := by rw [h1]; rfl
          go_wp2_with fail
          go_meet
          exact ⟨rfl, rfl⟩
        · have ht' : 0 < t.size := by omega
          obtain ⟨h1, h2⟩ := str_some ht'
          have HT := Lib.hid (head_of t ht')
          clear ht
          go_wp2_with fail
          · go_meet
            have hc : t[0] = 43 := UInt8.toNat_inj.1 (show t[0].toNat = (43 : UInt8).toNat by show _ = 43; omega)
            refine ⟨?_, rfl⟩
            rw [HY.out, HT.out, hc]; rfl
          · go_meet
            refine ⟨?_, rfl⟩
            rw [HY.out, HT.out, cmpE (k := 43) 43 rfl, cmpE (k := 45) 45 rfl]; rfl
      case rest =>
        obtain ⟨rfl, rfl⟩ := hcut
        cases y with
        | false =>
          go_upto_region 6 with (fail)
          have hq : t.data.toList = signless (s.data.toList.drop 1) := by rw [← HS1.out, signless_sg, ← HY.out]; rfl
          have hqz := hz1
          clear HS1 HY hz1
          generalize t = q at *
          have HQ := Lib.hid hq
          clear hq
          have HC := Lib.hid (fun W => cutDigits_any q W (by omega))
          have hd0 : (⟨(dgs q.data.toList).toArray⟩ : ByteArray).toList = dgs q.data.toList := by rw [Lib.toList_data]
          have hr0 : (⟨(rst q.data.toList).toArray⟩ : ByteArray).toList = rst q.data.toList := by rw [Lib.toList_data]
          have hes : res = (!(dgs q.data.toList).isEmpty && (rst q.data.toList).isEmpty) := by
            rw [HRES.out, HH.out, expB, HQ.out]
            have := HX.out
            unfold isE at this
            rw [← this]
            rfl
          have HES := Lib.hid hes
          have HD := Lib.hid hd0
          have HR := Lib.hid hr0
          clear hd0 hr0 hes
          generalize (⟨(dgs q.data.toList).toArray⟩ : ByteArray) = D at *
          generalize (⟨(rst q.data.toList).toArray⟩ : ByteArray) = R at *
          go_wp2_with (go_at_call 45; (with_reducible refine (HC.out _).mono ?_); rintro e' Wi ⟨rfl, hBi⟩; have HBI := Lib.hid hBi; clear hBi)
          · go_ret
            refine ⟨?_, HBI.out⟩
            rw [HES.out, ← HD.out, ‹D.toList = []›]
            rfl
          · go_ret
            refine ⟨?_, HBI.out⟩
            rw [HES.out, ← HD.out, ← HR.out]
            rfl
        | true =>
          have ht1 : 1 ≤ t.size := by
            rcases Nat.eq_zero_or_pos t.size with h | h
            · have h2 := HY.out
              rw [show t.data.toList = [] by rw [← Lib.toList_data, str_empty h]] at h2
              cases h2
            · exact h
          go_upto_region 6 with (fail)
          have hq : (t.extract 1 t.size).data.toList = signless (s.data.toList.drop 1) := by rw [Lib.extract_to_end, ← HS1.out, signless_sg, ← HY.out]; rfl
          have hqz : (t.extract 1 t.size).size ≤ s.size := by
            rw [Lib.size_eq, Lib.extract_to_end]
            rw [Lib.size_eq] at hz1
            simp only [List.length_drop]
            omega
          generalize t.extract 1 t.size = q at *
          clear HS1 HY hz1
          have HQ := Lib.hid hq
          clear hq
          have HC := Lib.hid (fun W => cutDigits_any q W (by omega))
          have hd0 : (⟨(dgs q.data.toList).toArray⟩ : ByteArray).toList = dgs q.data.toList := by rw [Lib.toList_data]
          have hr0 : (⟨(rst q.data.toList).toArray⟩ : ByteArray).toList = rst q.data.toList := by rw [Lib.toList_data]
          have hes : res = (!(dgs q.data.toList).isEmpty && (rst q.data.toList).isEmpty) := by
            rw [HRES.out, HH.out, expB, HQ.out]
            have := HX.out
            unfold isE at this
            rw [← this]
            rfl
          have HES := Lib.hid hes
          have HD := Lib.hid hd0
          have HR := Lib.hid hr0
          clear hd0 hr0 hes
          generalize (⟨(dgs q.data.toList).toArray⟩ : ByteArray) = D at *
          generalize (⟨(rst q.data.toList).toArray⟩ : ByteArray) = R at *
          go_wp2_with (go_at_call 45; (with_reducible refine (HC.out _).mono ?_); rintro e' Wi ⟨rfl, hBi⟩; have HBI := Lib.hid hBi; clear hBi)
          · go_ret
            refine ⟨?_, HBI.out⟩
            rw [HES.out, ← HD.out, ‹D.toList = []›]
            rfl
          · go_ret
            refine ⟨?_, HBI.out⟩
            rw [HES.out, ← HD.out, ← HR.out]
            rfl
/-- Is it a number? -/
def numB (l : List UInt8) : Bool :=
  let l1 := Lib.trimPrefix l [45]
  let r := rst l1
  if (dgs l1).isEmpty || ((dgs l1).head? == some 48 && dgs l1 != [48]) then false
  else if Lib.hasPrefix r [46] then
    let q := Lib.trimPrefix r [46]
    if (dgs q).isEmpty then false else (rst q).isEmpty || expB (rst q)
  else r.isEmpty || expB r

theorem trimP_le (l p : List UInt8) : (Lib.trimPrefix l p).length ≤ l.length := by
  unfold Lib.trimPrefix; split <;> simp
theorem list_le {D : ByteArray} {l : List UInt8} (h : D = ⟨l.toArray⟩) : D.toList = l ∧ D.size = l.length := by
  subst h; rw [Lib.toList_data]; simp [ByteArray.size]
theorem size_of_ne {s : ByteArray} (h : ¬ s.toList = []) : 0 < s.size := by
  rcases Nat.eq_zero_or_pos s.size with h0 | h0
  · exact absurd (str_empty h0) h
  · exact h0
theorem str_head {D : ByteArray} (h : 0 < D.size) : D.toList.head? = some D[0] := by
  rw [Lib.toList_data, head_of D h]; rfl

theorem head48 {D : ByteArray} (h : 0 < D.size) : (D.toList.head? == some 48) = ((D[0].toNat : Int) == 48) := by rw [str_head h, cmpE (k := 48) 48 rfl]; rfl
theorem empty_no {X : ByteArray} (h : ¬ X.toList = []) : X.toList.isEmpty = false := by cases hx : X.toList <;> simp_all
set_option maxHeartbeats 2000000 in
theorem isNumber_any (s : ByteArray) (w : World) (hs : s.size ≤ 9223372036854775807) :
    Calls Tryd.prog 29 #[.string s] w fun e w' => e = .returned (.bool (numB s.data.toList)) ∧ Below w.heap.size w w' := by
  obtain ⟨res, hres⟩ : ∃ r, r = numB s.data.toList := ⟨_, rfl⟩
  rw [← hres]
  obtain ⟨L, hL⟩ : ∃ q : ByteArray, q = ⟨(Lib.trimPrefix s.data.toList [45]).toArray⟩ := ⟨_, rfl⟩
  have hLd : L.data.toList = Lib.trimPrefix s.data.toList [45] := by rw [hL]
  obtain ⟨D, hD⟩ : ∃ q : ByteArray, q = ⟨(dgs L.data.toList).toArray⟩ := ⟨_, rfl⟩
  obtain ⟨R, hR⟩ : ∃ q : ByteArray, q = ⟨(rst L.data.toList).toArray⟩ := ⟨_, rfl⟩
  have hRd : R.data.toList = rst L.data.toList := by rw [hR]
  obtain ⟨Q, hQ⟩ : ∃ q : ByteArray, q = ⟨(Lib.trimPrefix R.data.toList [46]).toArray⟩ := ⟨_, rfl⟩
  have hQd : Q.data.toList = Lib.trimPrefix R.data.toList [46] := by rw [hQ]
  obtain ⟨f, hf⟩ : ∃ f, f = Lib.hasPrefix R.data.toList [46] := ⟨_, rfl⟩
  obtain ⟨D2, hD2⟩ : ∃ q : ByteArray, q = ⟨(dgs Q.data.toList).toArray⟩ := ⟨_, rfl⟩
  obtain ⟨R2, hR2⟩ : ∃ q : ByteArray, q = ⟨(rst Q.data.toList).toArray⟩ := ⟨_, rfl⟩
  have hR2d : R2.data.toList = rst Q.data.toList := by rw [hR2]
  have z0 := Lib.size_eq s
  have z1 : L.size ≤ s.size := by rw [Lib.size_eq L, hLd, z0]; exact trimP_le _ _
  have z2 : R.size ≤ L.size := by rw [Lib.size_eq R, hRd, Lib.size_eq L]; have := dgs_len L.data.toList; omega
  have z3 : Q.size ≤ R.size := by rw [Lib.size_eq Q, hQd, Lib.size_eq R]; exact trimP_le _ _
  have z4 : R2.size ≤ Q.size := by rw [Lib.size_eq R2, hR2d, Lib.size_eq Q]; have := dgs_len Q.data.toList; omega
  have HTP : Hid (∀ W, Calls Tryd.prog 46 #[.string s, .string ⟨#[45]⟩] W fun e w' => e = .returned (.string L) ∧ w' = W) := fun W => by rw [hL]; exact Tryd.strings_TrimPrefix s ⟨#[45]⟩ W
  have HC1 : Hid (∀ W, Calls Tryd.prog 45 #[.string L] W fun e w' => e = .returned (.tuple #[.string D, .string R]) ∧ Below W.heap.size W w') := fun W => by rw [hD, hR]; exact cutDigits_any L W (by omega)
  have HCP : Hid (∀ W, Calls Tryd.prog 47 #[.string R, .string ⟨#[46]⟩] W fun e w' => e = .returned (.tuple #[.string Q, .bool f]) ∧ w' = W) := fun W => by rw [hQ, hf]; exact Tryd.strings_CutPrefix R ⟨#[46]⟩ W
  have HC2 : Hid (∀ W, Calls Tryd.prog 45 #[.string Q] W fun e w' => e = .returned (.tuple #[.string D2, .string R2]) ∧ Below W.heap.size W w') := fun W => by rw [hD2, hR2]; exact cutDigits_any Q W (by omega)
  have HX1 : Hid (∀ W, ¬ R.toList = [] → Calls Tryd.prog 48 #[.string R] W fun e w' => e = .returned (.bool (expB R.toList)) ∧ Below W.heap.size W w') := fun W h => by rw [Lib.toList_data]; exact isExponent_any R W (by omega) (size_of_ne h)
  have HX2 : Hid (∀ W, ¬ R2.toList = [] → Calls Tryd.prog 48 #[.string R2] W fun e w' => e = .returned (.bool (expB R2.toList)) ∧ Below W.heap.size W w') := fun W h => by rw [Lib.toList_data]; exact isExponent_any R2 W (by omega) (size_of_ne h)
  have hres2 : res = if D.toList.isEmpty || (D.toList.head? == some 48 && D.toList != [48]) then false else if f then (if D2.toList.isEmpty then false else R2.toList.isEmpty || expB R2.toList) else R.toList.isEmpty || expB R.toList := by
    rw [hres, numB, ← hLd, (list_le hD).1, (list_le hR).1, (list_le hD2).1, (list_le hR2).1, hf, hRd, hQd, hRd]
  have HRES := Lib.hid hres2
  clear hres2 hres hL hLd hD hR hRd hQ hQd hf hD2 hR2 hR2d z0
  go_enter Tryd.func29, Tryd.ntmps29
  go_wp2_with (first
    | (go_at_call 46; (with_reducible refine (HTP.out _).mono ?_); rintro e' _ ⟨rfl, rfl⟩)
    | (go_at_call 45; (with_reducible refine (HC1.out _).mono ?_); rintro e' Wi ⟨rfl, hBi⟩; have HB1 := Lib.hid hBi; clear hBi)
    | (go_at_call 47; (with_reducible refine (HCP.out _).mono ?_); rintro e' _ ⟨rfl, rfl⟩)
    | (go_at_call 45; (with_reducible refine (HC2.out _).mono ?_); rintro e' Wj ⟨rfl, hBi⟩; have HB2 := Lib.hid hBi; clear hBi)
    | (go_at_call 48; (with_reducible refine (HX1.out _ (by assumption)).mono ?_); rintro e' Wk ⟨rfl, hBi⟩; have HB3 := Lib.hid hBi; clear hBi)
    | (go_at_call 48; (with_reducible refine (HX2.out _ (by assumption)).mono ?_); rintro e' Wl ⟨rfl, hBi⟩; have HB4 := Lib.hid hBi; clear hBi))
  all_goals first | go_ret | (exfalso; have hz := size_of_ne ‹¬ D.toList = []›; omega)
  all_goals refine ⟨?_, by first
    | exact HB1.out
    | exact HB1.out.trans (HB3.out.mono HB1.out.size)
    | exact (HB1.out.trans (HB2.out.mono HB1.out.size)).trans (HB4.out.mono (HB1.out.trans (HB2.out.mono HB1.out.size)).size)
    | exact HB1.out.trans (HB2.out.mono HB1.out.size)
    | exact Below.refl _ _⟩
  all_goals go_light
  all_goals (rw [HRES.out]; clear HRES HTP HC1 HCP HC2 HX1 HX2)
  all_goals (first
    | (rw [‹D.toList = []›]; rfl)
    | (have e1 := head48 ‹0 < D.size›; have e2 := empty_no ‹¬ D.toList = []›; simp_all))
end Go.Proofs.YtmjooghfghmngaaDoor
