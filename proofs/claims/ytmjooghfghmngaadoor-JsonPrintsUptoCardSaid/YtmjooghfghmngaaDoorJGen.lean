/- Parse, whatever the bytes are: a value that lies in new blocks, and a number that tells whether it is one. Rows of bytes of the call's own. -/
import Derived.Test.YtmjooghfghmngaaDoorJSame
import Derived.OwnWalk
import Derived.Laws.AppendOwnNone
namespace Go.Proofs.YtmjooghfghmngaaDoor
open Go.RowKit Go.Shelf Go.Lib

section
variable {s : List UInt8}
def Code (e : Int) : Prop := e = 11 ∨ e = 12
theorem tok_code {p q : Nat} {e : Int} (h : tokN s p = .error (q, e)) : Code e := by
  unfold tokN at h
  split at h
  · cases h
  · cases h; exact .inl rfl
theorem more_code {part : Tk → RR (List ByteArray × JV × Tk)} {last : Int} (hl : last ≠ 0) (hp : ∀ t, TW s t → ∀ q e, part t = .error (q, e) → Code e) (hf : ∀ t, TW s t → Fwd s t (part t) (·.2.2)) :
    ∀ (m : Nat) (tk : Tk) (ks : List ByteArray) (xs : List JV), s.length < m + tk.a → TW s tk → ∀ q e, moreN s part last m tk ks xs = .error (q, e) → Code e
  | 0, tk, ks, xs, hg, hT, q, e, h => by have := hT.2.1; omega
  | m + 1, tk, ks, xs, hg, hT, q, e, h => by
    unfold moreN at h
    split at h
    · cases h
    · split at h
      · rename_i h44
        have hlt : tk.a < tk.q := hT.1.resolve_left (by rw [h44]; decide)
        split at h
        · rename_i x hx
          cases h
          exact tok_code hx
        · rename_i t1 h1
          have w1 := tokN_tw hT.2.2.1 h1
          split at h
          · rename_i x hx
            cases h
            exact hp t1 w1.2 _ _ hx
          · rename_i z hz
            have hz2 : t1.q ≤ z.2.2.a ∧ TW s z.2.2 := hf t1 w1.2 z hz
            have hqq := w1.2.2.2.2
            exact more_code hl hp hf m z.2.2 _ _ (by omega) hz2.2 q e h
      · cases h; exact .inl rfl
theorem seq_code {part : Tk → RR (List ByteArray × JV × Tk)} {last : Int} (hl : last ≠ 0) (hp : ∀ t, TW s t → ∀ q e, part t = .error (q, e) → Code e) (hf : ∀ t, TW s t → Fwd s t (part t) (·.2.2))
    {tk : Tk} (hT : TW s tk) {q : Nat} {e : Int} (h : seqN s part last tk = .error (q, e)) : Code e := by
  unfold seqN at h
  split at h
  · rename_i x hx
    cases h; exact tok_code hx
  · rename_i t1 h1
    have w1 := tokN_tw hT.2.2.1 h1
    split at h
    · rename_i x hx
      cases h
      unfold firstN at hx
      split at hx
      · cases hx
      · split at hx
        · rename_i y hy
          cases hx
          exact hp t1 w1.2 _ _ hy
        · rename_i z hz
          have hz2 : t1.q ≤ z.2.2.a ∧ TW s z.2.2 := hf t1 w1.2 z hz
          exact more_code hl hp hf _ z.2.2 _ _ (by omega) hz2.2 _ _ hx
    · rename_i y hy
      split at h
      · rename_i x hx
        cases h; exact tok_code hx
      · cases h
theorem val_code : ∀ (d : Nat) (tk : Tk), TW s tk → ∀ q e, valN s d tk = .error (q, e) → Code e
  | d, tk, hT, q, e, h => by
    unfold valN at h
    split at h
    · split at h
      · cases h; exact .inr rfl
      · rename_i d
        split at h
        · rename_i x hx
          cases h
          exact seq_code (by decide) (fun t ht q e h => by
            unfold listPart at h
            split at h
            · cases h
            · rename_i x hx
              cases h
              exact val_code d t ht _ _ hx) (fun t ht => listPart_fwd (valN_fwd d t ht)) hT hx
        · cases h
    · split at h
      · split at h
        · cases h; exact .inr rfl
        · rename_i d
          split at h
          · rename_i x hx
            cases h
            exact seq_code (by decide) (fun t ht q e h => by
              unfold objPart at h
              split at h
              · split at h
                · rename_i x hx
                  cases h; exact tok_code hx
                · rename_i t1 h1
                  have w1 := tokN_tw ht.2.2.1 h1
                  split at h
                  · split at h
                    · rename_i x hx
                      cases h; exact tok_code hx
                    · rename_i t2 h2
                      have w2 := tokN_tw w1.2.2.2.1 h2
                      split at h
                      · cases h
                      · rename_i x hx
                        cases h
                        exact val_code d t2 w2.2 _ _ hx
                  · cases h; exact .inl rfl
              · cases h; exact .inl rfl) (fun t ht => objPart_fwd ht (fun u hu => valN_fwd d u hu)) hT hx
          · cases h
      · split at h
        · split at h
          · rename_i x hx
            cases h; exact tok_code hx
          · cases h
        · cases h; exact .inl rfl
theorem parse_code {q : Nat} {e : Int} (h : parseN s = .error (q, e)) : Code e := by
  unfold parseN at h
  split at h
  · cases h; exact .inr rfl
  · split at h
    · rename_i x hx
      cases h; exact tok_code hx
    · rename_i t ht
      split at h
      · rename_i x hx
        cases h
        exact val_code 32 t (start_tw ht) _ _ hx
      · split at h
        · cases h
        · cases h; exact .inl rfl
end

def zeroJV : JV := .mk 0 noT [] []
/-- What the number and the value tell of the bytes. -/
def Told (s : List UInt8) (x : JV) (e : Int) : Prop := (parseN s = .ok x ∧ e = 0) ∨ (∃ q, parseN s = .error (q, e) ∧ Code e ∧ x = zeroJV)
theorem Told.sm {s : List UInt8} {x : JV} {e : Int} (h : Told s x e) (hs : s.length ≤ 4611686018427387000) : SM 4611686018427387904 33 x := by
  have up : ∀ (d : Nat) (x : JV), SM (s.length + 2) d x → SM 4611686018427387904 d x := by
    intro d
    induction d with
    | zero => intro x _; trivial
    | succ d ih =>
      intro x h
      obtain ⟨k, t, ks, xs⟩ := x
      exact ⟨by have := h.1; omega, by have := h.2.1; omega, fun y hy => ih y (h.2.2 y hy)⟩
  rcases h with ⟨h, _⟩ | ⟨q, _, _, rfl⟩
  · exact up _ _ (parse_sm h)
  · exact ⟨by simp, by simp, fun y hy => by cases hy⟩
theorem zero_at (W : World) (F : Nat → Prop) : VAt W F 33 ⟨0, ⟨#[]⟩, .slice none 0 0, .slice none 0 0⟩ zeroJV :=
  ⟨rfl, rfl, ⟨none, 0, rfl, Nat.le_refl _, fun i t h => by cases h⟩, none, 0, rfl, Nat.le_refl _, fun i x h => by cases h⟩

theorem parse_gen {w : World} {A : Option Addr} {c : Nat} {s : List UInt8} (hE : Env w) (hB : Lib.BytesAt w A s.length s) (hA : ∀ ad, A = some ad → ad.block < w.heap.size) (hle : s.length ≤ c) (hcap : c ≤ 9223372036854775807) :
    Calls Tryd.prog 13 #[.slice A s.length c] w fun r w' => ∃ (k : Int) (t : ByteArray) (A1 : Option Addr) (n1 c1 : Nat) (A2 : Option Addr) (n2 c2 : Nat) (at' e : Int) (x : JV) (F : Nat → Prop), r = .returned (.tuple #[.agg #[.int .i64 k, .string t, .slice A1 n1 c1, .slice A2 n2 c2], .int .i64 at', .int .i64 e]) ∧
      Below w.heap.size w w' ∧ VAt w' F 33 ⟨k, t, .slice A1 n1 c1, .slice A2 n2 c2⟩ x ∧ (∀ g, F g → g < w'.heap.size) ∧ Told s x e :=
  (Parse_any hB hA hle hcap hE.1 hE.2.1 hE.2.2).mono fun r w' ⟨hb, h⟩ => by
    rcases h with ⟨p, x, F, hr, he, hV, hF⟩ | ⟨a, e', hr, he⟩
    · obtain ⟨pk, pt, pkv, plv⟩ := p
      obtain ⟨A1, n1, c1, A2, n2, c2, rfl, rfl⟩ := hV.slices
      exact ⟨pk, pt, A1, n1, c1, A2, n2, c2, 0, 0, x, F, he, hb, hV, fun g hg => (hF g hg).2, .inl ⟨hr, rfl⟩⟩
    · exact ⟨0, ⟨#[]⟩, none, 0, 0, none, 0, 0, a, e', zeroJV, fun _ => False, he, hb, zero_at _ _, fun g hg => hg.elim, .inr ⟨a, hr, parse_code hr, rfl⟩⟩

/-- Bytes as cells. -/
def byV (l : List UInt8) : List Value := l.map fun x => .int .u8 (x.toNat : Nat)
theorem byV_len (l : List UInt8) : (byV l).length = l.length := by simp [byV]
/-- A slice of bytes of the call's own. -/
def BRow (w0 : World) (v : Value) (l : List UInt8) (W : World) : Prop := Below w0.heap.size w0 W ∧ W.ownsRow w0.heap.size 5 1 v l.length (byV l)
theorem infoB : (Tryd.prog.info? 5).map (fun i => (i.zero, i.size, i.bytes)) = some (some (.int .u8 0), 1, 1) := by kernel_rfl
theorem BRow.at {w0 W : World} {v : Value} {l : List UInt8} (h : BRow w0 v l W) : ∃ A c, v = .slice A l.length c ∧ Lib.BytesAt W A l.length l ∧ (∀ ad, A = some ad → w0.heap.size ≤ ad.block ∧ ad.block < W.heap.size) ∧ l.length ≤ c ∧ c ≤ maxLen := by
  rcases h.2.2 with ⟨rfl, h0⟩ | ⟨g, cap, cur, rfl, hg0, hg, hn, hm, hs, ht⟩
  · rw [h0]
    exact ⟨none, 0, rfl, fun h1 => absurd h1 (by omega), fun ad e => (by cases e), Nat.le_refl _, by unfold maxLen; omega⟩
  · refine ⟨_, cap, rfl, fun h0 => ⟨g, 0, rfl, fun i hi => ?_⟩, fun ad e => (by cases e; exact ⟨hg0, blk_lt hg⟩), hn, hm⟩
    rw [Nat.zero_add, blk_cell hg i, ← Array.getElem?_toList]
    have := congrArg (·[i]?) ht
    simp only [List.getElem?_take, Nat.mul_one, hi, if_true] at this
    rw [this]
    simp [byV, List.getD_eq_getElem?_getD, List.getElem?_eq_getElem hi]

/-- Bytes appended to it. -/
theorem append_by {w0 W : World} {v : Value} {l : List UInt8} (HR : BRow w0 v l W) (qs : List UInt8) (A : Option Addr) (c : Nat) (hq : Lib.BytesAt W A qs.length qs) (hnil : A = none → c = 0) (hb : l.length + qs.length ≤ 140737488355328)
    {ops : Array Oper} {rest : List Oper} {o : Oper} {a : Act} {Q : Exit → Act → World → Prop} (hgd : o.guard = none) (s x : Operand)
    (ho : o.op = .call { callee := .builtin .append, args := #[s, x], argTypes := #[26, 26] })
    (hs : a.eval s = v) (hx : a.eval x = .slice A qs.length c)
    (h : ∀ v' w', BRow w0 v' (l ++ qs) w' → wpList Tryd.prog ops Q rest (a.put o.dst v') w') :
    wpList Tryd.prog ops Q (o :: rest) a W := by
  obtain ⟨i0, z, hi, hz0, hz1, hz2⟩ : ∃ i z, Tryd.prog.info? 5 = some i ∧ i.zero = some z ∧ i.size = 1 ∧ (i.bytes = 1 ∧ z.cells.size = 1) := by
    obtain ⟨i, h1, h2, h3, h4⟩ := info_parts infoB
    exact ⟨i, _, h1, h2, h3, h4, rfl⟩
  cases A with
  | none =>
    obtain rfl : qs = [] := by
      cases qs with
      | nil => rfl
      | cons p q => obtain ⟨_, _, e, _⟩ := hq (by simp); cases e
    obtain rfl := hnil rfl
    refine wpList_append_own_none hgd s x 26 ho w0.heap.size 5 i0 1 Tryd.underlying26 hi v l.length (byV l) hs HR.2 hx ?_
    have := h v W (by rw [List.append_nil]; exact HR)
    exact this
  | some ad =>
    refine wpList_append_own_at _ hgd s x 26 ho w0.heap.size 5 i0 z 1 1 Tryd.underlying26 hi hz0 hz1 hz2.1 hz2.2 (by decide) v l.length (byV l) hs HR.2 ad qs.length c (byV qs) hx (by rw [byV_len, Nat.mul_one]) (fun j u hu => ?_) (fun u hu => ?_) (by unfold maxLen; omega) (by omega) HR.1.size ?_
    · have hj : j < qs.length := by
        have := (List.getElem?_eq_some_iff.1 hu).1
        rwa [byV_len] at this
      obtain ⟨g, o', e, hc⟩ := hq (by omega)
      cases e
      rw [show (⟨g, o', none⟩ : Addr).add j = ⟨g, o' + j, none⟩ by simp [Addr.add], hc j hj, ← hu]
      simp [byV, List.getD_eq_getElem?_getD, List.getElem?_eq_getElem hj]
    · obtain ⟨y, _, rfl⟩ := List.mem_map.1 hu
      rfl
    · intro v' w' hown hgrow _ _
      have hgb : Below w0.heap.size w0 w' := by
        exact HR.1.grown hgrow HR.1.size (fun k hk => (HR.2.lt k hk).1)
      refine h v' w' ⟨hgb, ?_⟩
      rw [List.length_append]
      have : byV (l ++ qs) = byV l ++ byV qs := by simp [byV]
      rw [this]
      exact hown
theorem BRow.none (w : World) : BRow w (.slice none 0 0) [] w := ⟨Below.refl _ _, World.ownsRow_nil w _ _ _⟩
theorem BRow.made (w0 W : World) (hb : Below w0.heap.size w0 W) : BRow w0 (.slice (some ⟨W.heap.size, 0, Option.none⟩) 0 0) [] (W.alloc (Obj.cells #[] 5 (0, 0))) :=
  ⟨hb.alloc hb.size _, by
    have := World.ownsRow_made W #[] 0 (e := 5) (size := 1) hb.size (by unfold maxLen; omega) rfl
    exact this⟩
theorem BRow.on {w0 W W' : World} {v : Value} {l : List UInt8} (h : BRow w0 v l W) (hb : Below W.heap.size W W') : BRow w0 v l W' :=
  ⟨h.1.trans (hb.mono h.1.size), h.2.1, by
    rcases h.2.2 with hn | ⟨g, cap, cur, rfl, hg0, hg, r⟩
    · exact .inl hn
    · exact .inr ⟨g, cap, cur, rfl, hg0, (hb.block g (blk_lt hg)).trans hg, r⟩⟩
/-- Bytes as a string. -/
theorem conv_str {W : World} {A : Option Addr} {c : Nat} {s : List UInt8} (h : Lib.BytesAt W A s.length s) :
    (convert 26 9 (.slice A s.length c)).run Tryd.prog W = .ok (.string ⟨s.toArray⟩) W := by
  have hs := Tryd.underlying26
  have he := Tryd.underlying5
  have hd := Tryd.underlying9
  cases A with
  | none =>
    obtain rfl : s = [] := by
      cases s with
      | nil => rfl
      | cons p q => obtain ⟨_, _, e, _⟩ := h (by simp); cases e
    rw [run_convert_bytes_nil W 26 5 hs he _ _ _ hd]
    rfl
  | some ad =>
    refine run_convert_bytes_back (P := Tryd.prog) W 26 9 5 ad c s hs he hd (fun j hj => ?_)
    obtain ⟨g, o, e, hh⟩ := h (by omega)
    cases e
    rw [show (⟨g, o, none⟩ : Addr).add j = ⟨g, o + j, none⟩ by simp [Addr.add], hh j hj]
    simp [List.getD_eq_getElem?_getD, List.getElem?_eq_getElem hj]
end Go.Proofs.YtmjooghfghmngaaDoor
