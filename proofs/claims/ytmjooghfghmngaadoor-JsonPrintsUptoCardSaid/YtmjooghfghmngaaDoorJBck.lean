/- What is printed is read as it (plain): the leaves' tokens. -/
import Derived.Test.YtmjooghfghmngaaDoorJPrx
import Derived.Test.YtmjooghfghmngaaDoorJBlk
import Derived.Test.YtmjooghfghmngaaDoorJEnd
namespace Go.Proofs.YtmjooghfghmngaaDoor
open Go.RowKit Go.Shelf Go.Lib

/-- A text that is one token is that token within another. -/
theorem leaf_at {a s post : List UInt8} {n : Nat} (h : Lies a s n post) {c : UInt8} {r : List UInt8} (ha : a = c :: r) (hb : blankB.contains c = false) {k : Int} {t : ByteArray} (ht : tokC a c 0 = .ok k 0 t a.length) : tokN s n = .ok ⟨k, n, t, n + a.length⟩ := by
  have hl : 0 < a.length := by rw [ha]; simp
  have h1 := (h.tokOk1 (q := 0) hl ht).2
  have h2 := h.at (p := 0) (Nat.zero_le _)
  have h3 : s[n]? = some c := by
    have e : (s.drop n)[0]? = some c := by rw [Nat.add_zero] at h2; rw [h2, ha]; rfl
    rw [List.getElem?_drop] at e
    exact e
  rw [Nat.add_zero] at h1
  unfold tokN
  rw [tok_at h3 hb, h1]
theorem tokc_null : tokC [110, 117, 108, 108] 110 0 = .ok 1 0 noT 4 := by kernel_rfl
theorem tokc_false : tokC [102, 97, 108, 115, 101] 102 0 = .ok 2 0 noT 5 := by kernel_rfl
theorem tokc_true : tokC [116, 114, 117, 101] 116 0 = .ok 3 0 noT 4 := by kernel_rfl
theorem tokc_str {l out : List UInt8} (h : Pieces l out) : tokC (34 :: (out ++ [34])) 34 0 = .ok 5 0 ⟨l.toArray⟩ (34 :: (out ++ [34])).length := by
  obtain ⟨ps, h1, rfl, rfl, -⟩ := h
  have h2 := says_all ps h1 (34 :: (ps.flatMap (·.1) ++ [34])) [34] [] rfl
  simp only [List.length_cons, List.length_nil, Nat.zero_add] at h2
  have hlen : (34 :: (ps.flatMap (·.1) ++ [34])).length = (ps.flatMap (·.1)).length + 2 := by simp
  have h3 := said_fuel (a := 34 :: (ps.flatMap (·.1) ++ [34])) (ps.length + 1) ((34 :: (ps.flatMap (·.1) ++ [34])).length + 1) 1 _ (by omega) (by omega) h2
  rw [tokC, if_neg (by decide), if_pos rfl, Nat.zero_add, h3]
  simp only
  rw [hlen, show 1 + (ps.flatMap (·.1)).length + 1 = (ps.flatMap (·.1)).length + 2 by omega]
/-- A valid text's quoted form is its token. -/
theorem tokc_quoted (t : ByteArray) (hv : Lib.validD t.data.toList = true) : tokC (quotedL t) 34 0 = .ok 5 0 t (quotedL t).length := by
  have h := shown_pieces t (t.size + 1) 0 (Nat.zero_le _) (by omega) (by rw [List.drop_zero]; exact hv)
  rw [List.drop_zero] at h
  have := tokc_str h
  rw [show (⟨t.data.toList.toArray⟩ : ByteArray) = t from Lib.mk_data t] at this
  exact this
/-- How deep a value is, at most. -/
def DJ : Nat → JV → Prop
  | 0, _ => False
  | d + 1, .mk _ _ _ xs => ∀ x ∈ xs, DJ d x
theorem VAt.deep {W : World} {F : Nat → Prop} : ∀ {d : Nat} {p : PV} {x : JV}, VAt W F d p x → DJ d x
  | 0, _, _, h => h.elim
  | d + 1, p, .mk k t ks xs, h => fun x hx => by
    obtain ⟨-, -, -, A, c, -, -, h5⟩ := h
    obtain ⟨i, hi⟩ := List.mem_iff_getElem?.1 hx
    obtain ⟨_, _, _, _, _, _, _, _, _, hv⟩ := h5 i x hi
    exact hv.deep
/-- A part's text, wherever it stands ahead of a stop, is read as that part. -/
def PartAt (s : List UInt8) (part : Tk → RR (List ByteArray × JV × Tk)) (last : Int) (g : List UInt8) (kf : List ByteArray) (x : JV) : Prop :=
  ∀ (pre post : List UInt8) (t1 : Tk), s = pre ++ (g ++ post) → (∀ c r, post = c :: r → stopB.contains c = true) → tokN s (pre.length + g.length) = .ok t1 → ∃ tk, tokN s pre.length = .ok tk ∧ tk.k ≠ last ∧ part tk = .ok (kf, x, t1)
def pieceJ (f : JV → List UInt8) (obj : Bool) (ks : List ByteArray) (i : Nat) (x : JV) : List UInt8 := (if obj then quotedL (ks.getD i ⟨#[]⟩) ++ [58] else []) ++ f x
theorem head_at {s pre post : List UInt8} {c : UInt8} (h : s = pre ++ (c :: post)) : s[pre.length]? = some c := by
  rw [h, List.getElem?_append_right (Nat.le_refl _), Nat.sub_self]; rfl
theorem more_back {s : List UInt8} {part : Tk → RR (List ByteArray × JV × Tk)} {f : JV → List UInt8} {obj : Bool} {ks : List ByteArray} {kf : Nat → List ByteArray} {lc : UInt8} (hlc : signB.contains lc = true) (hst : stopB.contains lc = true) (h44 : ((lc.toNat : Nat) : Int) ≠ 44) :
    ∀ (l : List JV) (i : Nat), 0 < i → (∀ j x, l[j]? = some x → PartAt s part ((lc.toNat : Nat) : Int) (pieceJ f obj ks (i + j) x) (kf (i + j)) x) → ∀ (m : Nat) (pre post : List UInt8) (ks0 : List ByteArray) (xs0 : List JV), s = pre ++ (partsJ f obj ks i l ++ (lc :: post)) → l.length < m →
      ∃ tk, tokN s pre.length = .ok tk ∧ moreN s part ((lc.toNat : Nat) : Int) m tk ks0 xs0 = .ok ((ks0 ++ (List.range' i l.length).flatMap kf, xs0 ++ l), ⟨((lc.toNat : Nat) : Int), pre.length + (partsJ f obj ks i l).length, noT, pre.length + (partsJ f obj ks i l).length + 1⟩)
  | [], i, hi, hp, m, pre, post, ks0, xs0, hs, hm => by
    obtain ⟨m, rfl⟩ : ∃ k, m = k + 1 := ⟨m - 1, by simp at hm; omega⟩
    refine ⟨_, tok_sign (head_at hs) hlc, ?_⟩
    rw [moreN, if_pos rfl]
    simp [partsJ]
  | x :: l, i, hi, hp, m, pre, post, ks0, xs0, hs, hm => by
    obtain ⟨m, rfl⟩ : ∃ k, m = k + 1 := ⟨m - 1, by simp at hm; omega⟩
    have e : partsJ f obj ks i (x :: l) = 44 :: (pieceJ f obj ks i x ++ partsJ f obj ks (i + 1) l) := by
      rw [partsJ, partJ, if_pos hi]; simp [pieceJ]
    rw [e] at hs ⊢
    have hs1 : s = (pre ++ [44]) ++ (pieceJ f obj ks i x ++ (partsJ f obj ks (i + 1) l ++ (lc :: post))) := by rw [hs]; simp
    have hs2 : s = (pre ++ [44] ++ pieceJ f obj ks i x) ++ (partsJ f obj ks (i + 1) l ++ (lc :: post)) := by rw [hs]; simp
    obtain ⟨tk2, h2, h3⟩ := more_back hlc hst h44 l (i + 1) (by omega) (fun j y hj => by
      have := hp (j + 1) y hj
      rwa [show i + (j + 1) = i + 1 + j by omega] at this) m (pre ++ [44] ++ pieceJ f obj ks i x) post (ks0 ++ kf i) (xs0 ++ [x]) hs2 (by simp at hm; omega)
    have hstop : ∀ c r, partsJ f obj ks (i + 1) l ++ (lc :: post) = c :: r → stopB.contains c = true := by
      intro c r hc
      cases l with
      | nil =>
        simp only [partsJ, List.nil_append, List.cons.injEq] at hc
        rw [← hc.1]; exact hst
      | cons y l =>
        rw [partsJ, partJ, if_pos (by omega)] at hc
        simp only [List.cons_append, List.nil_append, List.cons.injEq] at hc
        rw [← hc.1]; decide
    have h0 := hp 0 x rfl
    rw [Nat.add_zero] at h0
    obtain ⟨tk1, g1, g2, g3⟩ := h0 (pre ++ [44]) _ tk2 hs1 hstop (by rw [← List.length_append]; exact h2)
    refine ⟨_, tok_sign (head_at hs) (by decide), ?_⟩
    have hne : ¬ (((44 : UInt8).toNat : Nat) : Int) = ((lc.toNat : Nat) : Int) := fun h => h44 h.symm
    rw [moreN, if_neg hne, if_pos (show (((44 : UInt8).toNat : Nat) : Int) = 44 from rfl)]
    rw [List.length_append] at g1
    simp only [List.length_cons, List.length_nil] at g1
    simp only
    rw [show pre.length + 1 = pre.length + (0 + 1) by omega, g1]
    simp only
    rw [g3]
    simp only
    rw [h3]
    simp only [List.length_append, List.length_cons, List.range'_succ, List.flatMap_cons, List.append_assoc, List.cons_append, List.nil_append]
    congr 3 <;> omega
theorem seq_back {s : List UInt8} {part : Tk → RR (List ByteArray × JV × Tk)} {f : JV → List UInt8} {obj : Bool} {ks : List ByteArray} {kf : Nat → List ByteArray} {lc oc : UInt8} (hlc : signB.contains lc = true) (hst : stopB.contains lc = true) (h44 : ((lc.toNat : Nat) : Int) ≠ 44)
    (xs : List JV) (hp : ∀ j x, xs[j]? = some x → PartAt s part ((lc.toNat : Nat) : Int) (pieceJ f obj ks j x) (kf j) x) (pre post : List UInt8) (hs : s = pre ++ (oc :: (partsJ f obj ks 0 xs ++ (lc :: post)))) (hm : xs.length ≤ s.length) (t4 : Tk)
    (h4 : tokN s (pre.length + 1 + (partsJ f obj ks 0 xs).length + 1) = .ok t4) (tk : Tk) (hq : tk.q = pre.length + 1) :
    seqN s part ((lc.toNat : Nat) : Int) tk = .ok (((List.range' 0 xs.length).flatMap kf, xs), t4) := by
  have hs0 : s = (pre ++ [oc]) ++ (partsJ f obj ks 0 xs ++ (lc :: post)) := by rw [hs]; simp
  have hl0 : (pre ++ [oc]).length = pre.length + 1 := by simp
  cases xs with
  | nil =>
    have h1 := tok_sign (head_at hs0) hlc
    rw [hl0] at h1
    unfold seqN
    rw [hq, h1]
    simp only
    rw [firstN, if_pos rfl]
    simp only
    simp only [partsJ, List.length_nil, Nat.add_zero] at h4
    rw [h4]
    rfl
  | cons x l =>
    have e : partsJ f obj ks 0 (x :: l) = pieceJ f obj ks 0 x ++ partsJ f obj ks 1 l := by
      rw [partsJ, partJ, if_neg (by omega)]; simp [pieceJ]
    rw [e] at hs0 h4
    have hs1 : s = (pre ++ [oc]) ++ (pieceJ f obj ks 0 x ++ (partsJ f obj ks 1 l ++ (lc :: post))) := by rw [hs0]; simp
    have hs2 : s = (pre ++ [oc] ++ pieceJ f obj ks 0 x) ++ (partsJ f obj ks 1 l ++ (lc :: post)) := by rw [hs0]; simp
    obtain ⟨tk2, h2, h3⟩ := more_back hlc hst h44 l 1 (by omega) (fun j y hj => by
      have := hp (j + 1) y hj
      rwa [show j + 1 = 1 + j by omega] at this) (s.length + 1) (pre ++ [oc] ++ pieceJ f obj ks 0 x) post (kf 0) [x] hs2 (by simp at hm; omega)
    have hstop : ∀ c r, partsJ f obj ks 1 l ++ (lc :: post) = c :: r → stopB.contains c = true := by
      intro c r hc
      cases l with
      | nil =>
        simp only [partsJ, List.nil_append, List.cons.injEq] at hc
        rw [← hc.1]; exact hst
      | cons y l =>
        rw [partsJ, partJ, if_pos (by omega)] at hc
        simp only [List.cons_append, List.nil_append, List.cons.injEq] at hc
        rw [← hc.1]; decide
    obtain ⟨tk1, g1, g2, g3⟩ := hp 0 x rfl (pre ++ [oc]) _ tk2 hs1 hstop (by rw [← List.length_append]; exact h2)
    rw [hl0] at g1
    unfold seqN
    rw [hq, g1]
    simp only
    rw [firstN, if_neg g2, g3]
    simp only
    rw [h3]
    simp only
    rw [List.length_append, hl0, show pre.length + 1 + (pieceJ f obj ks 0 x).length + (partsJ f obj ks 1 l).length + 1 = pre.length + 1 + (pieceJ f obj ks 0 x ++ partsJ f obj ks 1 l).length + 1 by rw [List.length_append]; omega, h4]
    simp [List.range'_succ]
/-- A value's text, wherever it stands ahead of a stop, is read as that value. -/
def ValB (s : List UInt8) (n : Nat) (g : List UInt8) (x : JV) : Prop :=
  ∀ (pre post : List UInt8) (t1 : Tk), s = pre ++ (g ++ post) → (∀ c r, post = c :: r → stopB.contains c = true) → tokN s (pre.length + g.length) = .ok t1 → ∃ tk, tokN s pre.length = .ok tk ∧ tk.k ≠ 93 ∧ valN s n tk = .ok (x, t1)
theorem lies_of {s pre a post : List UInt8} (hs : s = pre ++ (a ++ post)) (hst : ∀ c r, post = c :: r → stopB.contains c = true) : Lies a s pre.length post :=
  { eq := by rw [hs, List.drop_left], fits := by rw [hs, List.length_append]; omega, stop := hst }
theorem list_part {s : List UInt8} {n : Nat} {f : JV → List UInt8} {ks : List ByteArray} {j : Nat} {x : JV} (h : ValB s n (f x) x) : PartAt s (listPart (valN s n)) 93 (pieceJ f false ks j x) [] x := fun pre post t1 hs hst h1 => by
  have e : pieceJ f false ks j x = f x := by simp [pieceJ]
  rw [e] at hs h1
  obtain ⟨tk, g1, g2, g3⟩ := h pre post t1 hs hst h1
  exact ⟨tk, g1, g2, by unfold listPart; rw [g3]⟩
theorem obj_part {s : List UInt8} {n : Nat} {f : JV → List UInt8} {ks : List ByteArray} {j : Nat} {x : JV} {u : ByteArray} (h : ValB s n (f x) x) (hu : ks[j]? = some u) (hv : Lib.validD u.data.toList = true) : PartAt s (objPart s (valN s n)) 125 (pieceJ f true ks j x) [u] x := fun pre post t1 hs hst h1 => by
  have e : pieceJ f true ks j x = quotedL u ++ 58 :: f x := by simp [pieceJ, List.getD_eq_getElem?_getD, hu]
  rw [e] at hs h1
  have hs1 : s = pre ++ (quotedL u ++ (58 :: (f x ++ post))) := by rw [hs]; simp
  have hs2 : s = (pre ++ quotedL u) ++ (58 :: (f x ++ post)) := by rw [hs]; simp
  have hs3 : s = (pre ++ quotedL u ++ [58]) ++ (f x ++ post) := by rw [hs]; simp
  have k1 := leaf_at (lies_of hs1 (fun c r hc => by rw [List.cons.injEq] at hc; rw [← hc.1]; decide)) (c := 34) (r := _) rfl (by decide) (tokc_quoted u hv)
  have k2 := tok_sign (head_at hs2) (by decide)
  rw [List.length_append] at k2
  obtain ⟨tk, g1, -, g3⟩ := h (pre ++ quotedL u ++ [58]) post t1 hs3 hst (by
    rw [← h1]
    congr 1
    simp only [List.length_append, List.length_cons, List.length_nil]
    omega)
  simp only [List.length_append, List.length_cons, List.length_nil, Nat.zero_add] at g1
  refine ⟨_, k1, by simp, ?_⟩
  unfold objPart
  rw [if_pos rfl]
  simp only
  rw [k2]
  simp only
  rw [if_pos (show (((58 : UInt8).toNat : Nat) : Int) = 58 from rfl), g1]
  simp only
  rw [g3]
def Nums (l : List UInt8) : Prop := ∀ c ∈ l, numsB.contains c = true
theorem digit_num {c : UInt8} (h : isD c = true) : numsB.contains c = true := by
  have hh : ∀ n : Nat, n < 256 → isD (UInt8.ofNat n) = true → numsB.contains (UInt8.ofNat n) = true := by decide +kernel
  have := hh c.toNat c.toNat_lt
  rw [UInt8.ofNat_toNat] at this
  exact this h
theorem Nums.of_rst {l : List UInt8} (h : Nums (rst l)) : Nums l := fun c hc => by
  rw [← dgs_rst l, List.mem_append] at hc
  rcases hc with hc | hc
  · have : ∀ (l : List UInt8) (c : UInt8), c ∈ dgs l → isD c = true := by
      intro l
      induction l with
      | nil => intro c hc; cases hc
      | cons x l ih =>
        intro c hc
        unfold dgs at hc ih
        rw [List.takeWhile_cons] at hc
        split at hc
        · rename_i hx
          rcases List.mem_cons.1 hc with rfl | hc
          · exact hx
          · exact ih c hc
        · cases hc
    exact digit_num (this l c hc)
  · exact h c hc
theorem Nums.nil_of {l : List UInt8} (h : l.isEmpty = true) : Nums l := fun c hc => by
  rw [List.isEmpty_iff] at h; rw [h] at hc; cases hc
theorem Nums.of_trim {l : List UInt8} {x : UInt8} (hx : numsB.contains x = true) (h : Nums (Lib.trimPrefix l [x])) : Nums l := fun c hc => by
  unfold Lib.trimPrefix at h
  split at h
  · rename_i hp
    cases l with
    | nil => cases hc
    | cons y l =>
      have hy : y = x := by
        simp [Lib.hasPrefix] at hp
        first | exact hp.symm | exact hp
      rcases List.mem_cons.1 hc with rfl | hc
      · rw [hy]; exact hx
      · exact h c (by simpa using hc)
  · exact h c hc
theorem Nums.of_exp : ∀ {l : List UInt8}, expB l = true → Nums l
  | [], h => by cases h
  | c :: r, h => by
    unfold expB at h
    simp only [Bool.and_eq_true, Bool.or_eq_true, beq_iff_eq] at h
    obtain ⟨h1, -, h3⟩ := h
    have hr : Nums (signless r) := Nums.of_rst (Nums.nil_of h3)
    intro x hx
    rcases List.mem_cons.1 hx with rfl | hx
    · rcases h1 with rfl | rfl <;> decide
    · unfold signless at hr
      split at hr
      · rename_i y r2
        split at hr
        · rename_i hy
          rcases List.mem_cons.1 hx with rfl | hx
          · rcases hy with rfl | rfl <;> decide
          · exact hr x hx
        · exact hr x hx
      · cases hx
theorem numB_nums {l : List UInt8} (h : numB l = true) : Nums l := by
  unfold numB at h
  simp only at h
  split at h
  · cases h
  · split at h
    · rename_i hp
      split at h
      · cases h
      · rw [Bool.or_eq_true] at h
        refine Nums.of_trim (x := 45) (by decide) (Nums.of_rst (Nums.of_trim (x := 46) (by decide) (Nums.of_rst ?_)))
        rcases h with h | h
        · exact Nums.nil_of h
        · exact Nums.of_exp h
    · rw [Bool.or_eq_true] at h
      refine Nums.of_trim (x := 45) (by decide) (Nums.of_rst ?_)
      rcases h with h | h
      · exact Nums.nil_of h
      · exact Nums.of_exp h
theorem tokc_num {c : UInt8} {r : List UInt8} (h : numB (c :: r) = true) : tokC (c :: r) c 0 = .ok 4 0 ⟨(c :: r).toArray⟩ (c :: r).length := by
  have hn := numB_nums h
  obtain ⟨f1, f2, f3, f4⟩ := nums_facts (hn c (by simp))
  rw [tokC, if_neg (by rw [f2]; simp), if_neg f3]
  by_cases hlo : lowB.contains c = true
  · obtain rfl := f4 hlo
    rw [numB_e] at h
    cases h
  · have hr : runL (c :: r) numsB 0 = c :: r := by unfold runL; rw [List.drop_zero]; exact takeAll hn
    rw [if_neg hlo, if_pos (hn c (by simp)), hr, if_pos h, Nat.zero_add]
theorem tok_leaf {s : List UInt8} {n : Nat} {k : Int} {t : ByteArray} {t1 tk : Tk} (ht : tk.k = k ∧ tk.t = t) (hk : 1 ≤ k ∧ k ≤ 5) (h : tokN s tk.q = .ok t1) : valN s n tk = .ok (.mk k t [] [], t1) := by
  obtain ⟨rfl, rfl⟩ := ht
  unfold valN
  rw [if_neg (by omega), if_neg (by omega), if_pos hk, h]
/-- A leaf's text is read as the leaf. -/
theorem leaf_back {s a : List UInt8} {n : Nat} {c : UInt8} {r : List UInt8} (ha : a = c :: r) (hb : blankB.contains c = false) {k : Int} {t : ByteArray} (hk : 1 ≤ k ∧ k ≤ 5) (ht : tokC a c 0 = .ok k 0 t a.length) : ValB s n a (.mk k t [] []) := fun pre post t1 hs hst h1 =>
  ⟨_, leaf_at (lies_of hs hst) ha hb ht, by show k ≠ 93; omega, tok_leaf ⟨rfl, rfl⟩ hk h1⟩
theorem flat_one {α β : Type} (g : α → β) : ∀ l : List α, l.flatMap (fun i => [g i]) = l.map g
  | [] => rfl
  | x :: l => by rw [List.flatMap_cons, flat_one g l]; rfl
theorem key_map {ks : List ByteArray} : (List.range' 0 ks.length).flatMap (fun i => [ks.getD i ⟨#[]⟩]) = ks := by
  rw [flat_one]
  apply List.ext_getElem?
  intro i
  by_cases h : i < ks.length
  · simp [h]
  · simp [h]
theorem no_keys (n : Nat) : (List.range' 0 n).flatMap (fun _ => ([] : List ByteArray)) = [] := by simp
theorem empty_text {t : ByteArray} (h : t.toList.isEmpty = true) : t = noT := by
  rw [Lib.toList_data, List.isEmpty_iff] at h
  rw [← Lib.mk_data t, h]
  rfl
theorem seq_len {f : JV → List UInt8} {obj : Bool} {ks : List ByteArray} : ∀ (l : List JV) (i : Nat), l.length ≤ (partsJ f obj ks i l).length + 1 := by
  have h : ∀ (l : List JV) (i : Nat), 0 < i → l.length ≤ (partsJ f obj ks i l).length := by
    intro l
    induction l with
    | nil => intro i _; simp
    | cons x l ih =>
      intro i hi
      have := ih (i + 1) (by omega)
      rw [partsJ, partJ, if_pos hi]
      simp only [List.length_append, List.length_cons]
      omega
  intro l i
  cases l with
  | nil => simp
  | cons x l =>
    have := h l (i + 1) (by omega)
    rw [partsJ]
    simp only [List.length_append, List.length_cons]
    omega
theorem val_back (s : List UInt8) : ∀ (d n : Nat) (x : JV), DJ d x → soundJ n x = true → ValB s n (printJ d x) x
  | 0, _, _, h, _ => h.elim
  | d + 1, n, .mk k t ks xs, hD, h => by
    have hh : ∃ wi, headJ k t ks.length xs.length wi = true ∧ (wi = true → ∃ m, n = m + 1 ∧ (∀ u ∈ ks, Lib.validD u.data.toList = true) ∧ ∀ x ∈ xs, soundJ m x = true) := by
      cases n with
      | zero => exact ⟨false, h, fun h => by cases h⟩
      | succ n =>
        refine ⟨_, h, fun hw => ⟨n, rfl, ?_⟩⟩
        rw [Bool.and_eq_true, List.all_eq_true, List.all_eq_true] at hw
        exact hw
    obtain ⟨wi, h1, h2⟩ := hh
    have hnil : (ks.length == 0 && xs.length == 0) = true → ks = [] ∧ xs = [] := fun h0 => by
      simp only [Bool.and_eq_true, beq_iff_eq] at h0
      exact ⟨List.eq_nil_of_length_eq_zero h0.1, List.eq_nil_of_length_eq_zero h0.2⟩
    unfold headJ at h1
    by_cases k1 : k = 1 ∨ k = 2 ∨ k = 3
    · rw [if_pos k1, Bool.and_eq_true] at h1
      obtain ⟨rfl, rfl⟩ := hnil h1.2
      obtain rfl := empty_text h1.1
      rcases k1 with rfl | rfl | rfl
      · exact leaf_back rfl (by decide) (by omega) tokc_null
      · exact leaf_back rfl (by decide) (by omega) tokc_false
      · exact leaf_back rfl (by decide) (by omega) tokc_true
    rw [if_neg k1] at h1
    by_cases k4 : k = 4
    · rw [if_pos k4, Bool.and_eq_true] at h1
      obtain ⟨rfl, rfl⟩ := hnil h1.2
      subst k4
      cases hc : t.data.toList with
      | nil => rw [hc] at h1; cases h1.1
      | cons c r =>
        have h3 := h1.1
        rw [hc] at h3
        have e : printJ (d + 1) (.mk 4 t [] []) = c :: r := hc
        have ht := tokc_num h3
        rw [← hc, show (⟨t.data.toList.toArray⟩ : ByteArray) = t from Lib.mk_data t, hc] at ht
        rw [e]
        exact leaf_back rfl (nums_facts (numB_nums h3 c (by simp))).1 (by omega) ht
    rw [if_neg k4] at h1
    by_cases k5 : k = 5
    · rw [if_pos k5, Bool.and_eq_true] at h1
      obtain ⟨rfl, rfl⟩ := hnil h1.2
      subst k5
      exact leaf_back (c := 34) (r := _) rfl (by decide) (by omega) (tokc_quoted t h1.1)
    rw [if_neg k5] at h1
    by_cases k6 : k = 6
    · rw [if_pos k6, Bool.and_eq_true, Bool.and_eq_true, beq_iff_eq] at h1
      obtain ⟨m, rfl, -, h4⟩ := h2 h1.2.2
      obtain rfl := empty_text h1.1
      obtain rfl := List.eq_nil_of_length_eq_zero h1.2.1
      subst k6
      intro pre post t1 hs hst ht1
      have e : printJ (d + 1) (.mk 6 noT [] xs) = 91 :: (partsJ (printJ d) false [] 0 xs ++ [93]) := rfl
      rw [e] at hs ht1
      have hs1 : s = pre ++ (91 :: (partsJ (printJ d) false [] 0 xs ++ (93 :: post))) := by rw [hs]; simp
      refine ⟨_, tok_sign (head_at hs1) (by decide), by simp, ?_⟩
      have hq := seq_back (kf := fun _ => []) (lc := 93) (by decide) (by decide) (by decide) xs (fun j x hj => list_part (val_back s d m x (hD x (List.mem_of_getElem? hj)) (h4 x (List.mem_of_getElem? hj)))) pre post hs1 (by
        have := seq_len (f := printJ d) (obj := false) (ks := []) xs 0
        rw [hs]; simp only [List.length_append, List.length_cons]; omega) t1 (by
        rw [← ht1]; congr 1; simp only [List.length_append, List.length_cons, List.length_nil]; omega) ⟨(((91 : UInt8).toNat : Nat) : Int), pre.length, noT, pre.length + 1⟩ rfl
      rw [no_keys] at hq
      unfold valN
      rw [if_pos (show (((91 : UInt8).toNat : Nat) : Int) = 91 from rfl)]
      simp only
      rw [show ((((93 : UInt8).toNat : Nat) : Int)) = 93 from rfl] at hq
      rw [hq]
    rw [if_neg k6] at h1
    by_cases k7 : k = 7
    · rw [if_pos k7, Bool.and_eq_true, Bool.and_eq_true, beq_iff_eq] at h1
      obtain ⟨m, rfl, h3, h4⟩ := h2 h1.2.2
      obtain rfl := empty_text h1.1
      have hl := h1.2.1
      subst k7
      intro pre post t1 hs hst ht1
      have e : printJ (d + 1) (.mk 7 noT ks xs) = 123 :: (partsJ (printJ d) true ks 0 xs ++ [125]) := rfl
      rw [e] at hs ht1
      have hs1 : s = pre ++ (123 :: (partsJ (printJ d) true ks 0 xs ++ (125 :: post))) := by rw [hs]; simp
      refine ⟨_, tok_sign (head_at hs1) (by decide), by simp, ?_⟩
      have hq := seq_back (kf := fun i => [ks.getD i ⟨#[]⟩]) (lc := 125) (by decide) (by decide) (by decide) xs (fun j x hj => by
        have hj2 : j < ks.length := by rw [hl]; exact (List.getElem?_eq_some_iff.1 hj).1
        have hu : ks[j]? = some ks[j] := List.getElem?_eq_getElem hj2
        have hg : ks.getD j ⟨#[]⟩ = ks[j] := by rw [List.getD_eq_getElem?_getD, hu]; rfl
        simp only [hg]
        exact obj_part (val_back s d m x (hD x (List.mem_of_getElem? hj)) (h4 x (List.mem_of_getElem? hj))) hu (h3 _ (List.mem_of_getElem? hu))) pre post hs1 (by
        have := seq_len (f := printJ d) (obj := true) (ks := ks) xs 0
        rw [hs]; simp only [List.length_append, List.length_cons]; omega) t1 (by
        rw [← ht1]; congr 1; simp only [List.length_append, List.length_cons, List.length_nil]; omega) ⟨(((123 : UInt8).toNat : Nat) : Int), pre.length, noT, pre.length + 1⟩ rfl
      rw [← hl, key_map] at hq
      unfold valN
      rw [if_neg (show ¬ (((123 : UInt8).toNat : Nat) : Int) = 91 by decide), if_pos (show (((123 : UInt8).toNat : Nat) : Int) = 123 from rfl)]
      simp only
      rw [show ((((125 : UInt8).toNat : Nat) : Int)) = 125 from rfl] at hq
      rw [hq]
    rw [if_neg k7] at h1
    cases h1
/-- What is printed is read as it was. -/
theorem print_back {d : Nat} {x : JV} (hD : DJ d x) (h : soundJ 32 x = true) (hl : (printJ d x).length ≤ 262144) : parseN (printJ d x) = .ok x := by
  have he := tok_end (printJ d x) (printJ d x).length (Nat.le_refl _)
  obtain ⟨tk, h1, -, h3⟩ := val_back (printJ d x) d 32 x hD h [] [] _ (by simp) (fun c r hc => by cases hc) (by simpa using he)
  unfold parseN
  rw [if_neg (by omega)]
  rw [List.length_nil] at h1
  rw [h1]
  simp only
  rw [h3]
  rfl
end Go.Proofs.YtmjooghfghmngaaDoor
