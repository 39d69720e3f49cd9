/- A list, or an object, up to its last sign. -/
import Derived.Test.YtmjooghfghmngaaDoorJObj
namespace Go.Proofs.YtmjooghfghmngaaDoor
open Go.RowKit Go.Shelf Go.Lib

def endN (s : List UInt8) (r : RR ((List ByteArray × List JV) × Tk)) : RR ((List ByteArray × List JV) × Tk) :=
  match r with
  | .error e => .error e
  | .ok y => match tokN s y.2.q with
    | .error e => .error e
    | .ok t4 => .ok (y.1, t4)
theorem seqN_end {s : List UInt8} {part : Tk → RR (List ByteArray × JV × Tk)} {last : Int} {tk t1 : Tk} (h : tokN s tk.q = .ok t1) : seqN s part last tk = endN s (firstN s part last t1) := by
  unfold seqN endN; rw [h]; rfl
def SeqOut (n b : Nat) (A : Option Addr) (c : Nat) (s : List UInt8) (ar K : Int) (d : Nat) (r : RR ((List ByteArray × List JV) × Tk)) (W : World) (e : Ending) (w' : World) : Prop :=
  Fr n b W w' ∧ ((∃ y, r = .ok y ∧ e = .returned (.tuple #[]) ∧ Rd w' b A c s y.2.k (y.2.a : Nat) y.2.t y.2.q ∧ SeqI b n ar K d y.1.1 y.1.2 w') ∨ (∃ (a : Nat) (e' : Int), r = .error (a, e') ∧ e = thrown a e'))
theorem SeqI.keep {b n d : Nat} {ar K : Int} {ks : List ByteArray} {xs : List JV} {W W' : World} (h : SeqI b n ar K d ks xs W) (hb : b < n) (hG : W.grownBy W' (some b)) : SeqI b n ar K d ks xs W' := by
  obtain ⟨kv, lv, l, F, h⟩ := h
  exact ⟨kv, lv, l, F, h.keep hb hG⟩

set_option maxHeartbeats 4000000 in
theorem within_list {b n d c : Nat} {ar : Int} {A : Option Addr} {s : List UInt8} {w : World} {tk : Tk} {part : Tk → RR (List ByteArray × JV × Tk)} (hb : b < n) (har0 : 0 ≤ ar) (har1 : ar ≤ 31)
    (HP0 : ∀ W tk ks xs, Rd W b A c s tk.k (tk.a : Nat) tk.t tk.q → TW s tk → SeqI b n ar 6 d ks xs W → n + 4 ≤ W.heap.size → xs.length ≤ tk.a → ks.length ≤ tk.a → ks = [] → Calls Tryd.prog 59 #[.pointer (some ⟨n + 3, 0, none⟩), .pointer (some ⟨n, 0, none⟩), .pointer (some ⟨n + 1, 0, none⟩)] W (PartOut n b A c s ar 6 d (part tk) ks xs W))
    (hpf : ∀ t, TW s t → Fwd s t (part t) (·.2.2)) (hpk : ∀ t x, part t = .ok x → x.1.length ≤ 1 ∧ x.1 = [])
    (hR : Rd w b A c s tk.k (tk.a : Nat) tk.t tk.q) (hT : TW s tk) (hq : 1 ≤ tk.q) (hI : SeqI b n ar 6 d [] [] w) (hn : n + 4 ≤ w.heap.size) :
    Calls Tryd.prog 58 #[.pointer (some ⟨b, 0, none⟩), .int .i64 ar, .int .i64 93, .func (.func 59) #[] #[.pointer (some ⟨n + 3, 0, none⟩), .pointer (some ⟨n, 0, none⟩), .pointer (some ⟨n + 1, 0, none⟩)]] w (SeqOut n b A c s ar 6 d (seqN s part 93 tk) w) := by
  obtain ⟨rr, hrr⟩ : ∃ r, r = seqN s part 93 tk := ⟨_, rfl⟩
  rw [← hrr]
  have hne32 : ((ar : Int) == 32) = false := by rw [beq_eq_false_iff_ne]; omega
  have HP := Lib.hid HP0
  have HPF := Lib.hid hpf
  have HPK := Lib.hid hpk
  have HRR := Lib.hid hrr
  have HN := Lib.hid (fun W (t : Tk) (hR : Rd W b A c s t.k (t.a : Nat) t.t t.q) => nextK hR)
  have HTK := Lib.hid (fun W (t : Tk) (hR : Rd W b A c s t.k (t.a : Nat) t.t t.q) => take_any hR 44)
  have HI := Lib.hid hI
  have HW := Lib.hid (Fr.refl n b w)
  have htq := hT.2.2.1
  clear HP0 hpf hpk hrr hI
  go_enter Tryd.func58, Tryd.ntmps58
  go_wp2_with fail
  go_at_call 22
  refine (HN.out _ _ hR).mono ?_
  rintro e' W1 ⟨hG1, ⟨t1, hr1, rfl, hR1⟩ | ⟨a', e2, hr1, rfl⟩⟩
  · have w1 := tokN_tw htq hr1
    have h1 := HRR.out
    rw [seqN_end hr1] at h1
    have HRR := Lib.hid h1
    have HF1 := Lib.hid (Fr.of hG1 (show n ≤ w.heap.size by omega))
    have HI1 := Lib.hid (HI.out.keep hb hG1)
    have hn1 : n + 4 ≤ W1.heap.size := Nat.le_trans hn hG1.size
    obtain ⟨q0, q1, q2, q3, q4⟩ := hR1.cells
    have HR1 := Lib.hid hR1
    have hw1 := w1.1
    have HT1 := Lib.hid w1.2
    clear hr1 h1 hG1 hR1 HI hR hT w1 q1 q2 q3 q4
    by_cases hk : t1.k = 93
    · have hk2 : (t1.k != 93) = false := by rw [hk]; rfl
      have h2 := HRR.out
      unfold firstN at h2
      rw [if_pos hk] at h2
      have HRR := Lib.hid h2
      clear h2
      go_wp2_with fail
      go_at_call 22
      refine (HN.out _ _ HR1.out).mono ?_
      rintro e' W2 ⟨hG2, ⟨t2, hr2, rfl, hR2⟩ | ⟨a', e2, hr2, rfl⟩⟩
      · have HI2 := Lib.hid (HI1.out.keep hb hG2)
        have HF2 := Lib.hid (HF1.out.trans (Fr.of hG2 (by omega)))
        have HR2 := Lib.hid hR2
        have HR2E := Lib.hid hr2
        clear hG2 hR2 hr2
        go_wp2_with fail
        refine bodyPost_end (results_none rfl _ _ _) rfl ?_
        refine ⟨HF2.out, .inl ⟨(([], []), t2), ?_, rfl, HR2.out, HI2.out⟩⟩
        rw [HRR.out, endN]
        simp only
        rw [HR2E.out]
      · refine ⟨rfl, HF1.out.trans (Fr.of hG2 (by omega)), .inr ⟨a', e2, ?_, rfl⟩⟩
        rw [HRR.out, endN]
        simp only
        rw [hr2]
    · have hk2 : (t1.k != 93) = true := by rw [bne_iff_ne]; exact hk
      have h2 := HRR.out
      unfold firstN at h2
      rw [if_neg hk] at h2
      have HRR := Lib.hid h2
      clear h2 hk
      go_wp2_with fail
      go_at_call 59
      refine (HP.out _ _ _ _ HR1.out HT1.out HI1.out hn1 (by simp) (by simp) rfl).mono ?_
      rintro e' W2 ⟨f2, ⟨y, hy, rfl, r2, i2⟩ | ⟨a', e2, hy, rfl⟩⟩
      · have h3 := HRR.out
        rw [hy] at h3
        simp only at h3
        have w2 := HPF.out _ HT1.out y hy
        have hyk := HPK.out _ y hy
        have HRR := Lib.hid h3
        have hw2 : t1.q ≤ y.2.2.a := w2.1
        have HT2 := Lib.hid w2.2
        have ht1a := HT1.out.2.2.2
        have HF2 := Lib.hid (HF1.out.trans f2)
        have hn2 : n + 4 ≤ W2.heap.size := Nat.le_trans hn1 f2.size
        have HR2 := Lib.hid r2
        have HI2 := Lib.hid i2
        clear hy h3 w2 f2 r2 i2 q0
        go_wp2_with fail
        go_loopg [] (s.length + 1) (fun gk wr => ∃ (m : Nat) (tk : Tk) (ks : List ByteArray) (xs : List JV), gk = m ∧ s.length < m + tk.a ∧ xs.length ≤ tk.a ∧ ks.length ≤ xs.length ∧ ks = [] ∧ n + 4 ≤ wr.heap.size ∧ Hid (Rd wr b A c s tk.k (tk.a : Nat) tk.t tk.q) ∧ Hid (TW s tk) ∧ Hid (SeqI b n ar 6 d ks xs wr) ∧ Hid (Fr n b w wr) ∧ Hid (rr = endN s (moreN s part 93 m tk ks xs)))
        case atStart => exact ⟨s.length + 1, y.2.2, y.1, [y.2.1], rfl, by omega, by simp only [List.length_cons, List.length_nil]; omega, by simp only [List.length_cons, List.length_nil]; omega, hyk.2, hn2, HR2.out, HT2.out, by have := HI2.out; rw [List.nil_append, List.nil_append] at this; exact this, HF2.out, HRR.out⟩
        case round =>
          clear HR2 HT2 HI2 HF2 HRR hn2 HR1 HT1 HI1 HF1 hyk hw2 ht1a hn1
          obtain ⟨m, tk, ks, xs, hgk, hm, hxl, hkl, hks, hnr, HR, HT, HI, HF, HU⟩ := hrel
          have hta := HT.out.2.1
          obtain ⟨q0, q1, q2, q3, q4⟩ := HR.out.cells
          clear q1 q2 q3 q4
          cases m with
          | zero => omega
          | succ m =>
            by_cases hk : tk.k = 93
            · have hk2 : (tk.k != 93) = false := by rw [hk]; rfl
              have h2 := HU.out
              unfold moreN at h2
              rw [if_pos hk] at h2
              have HRR := Lib.hid h2
              clear h2 HU hk
              go_wp2_with fail
              go_at_call 22
              refine (HN.out _ _ HR.out).mono ?_
              rintro e' W2 ⟨hG2, ⟨t2, hr2, rfl, hR2⟩ | ⟨a', e2, hr2, rfl⟩⟩
              · have HI2 := Lib.hid (HI.out.keep hb hG2)
                have HF2 := Lib.hid (HF.out.trans (Fr.of hG2 (by omega)))
                have HR2 := Lib.hid hR2
                have HR2E := Lib.hid hr2
                clear hG2 hR2 hr2
                go_wp2_with fail
                refine bodyPost_end (results_none rfl _ _ _) rfl ?_
                refine ⟨HF2.out, .inl ⟨((ks, xs), t2), ?_, rfl, HR2.out, HI2.out⟩⟩
                rw [HRR.out, endN]
                simp only
                rw [HR2E.out]
              · refine ⟨rfl, HF.out.trans (Fr.of hG2 (by omega)), .inr ⟨a', e2, ?_, rfl⟩⟩
                rw [HRR.out, endN]
                simp only
                rw [hr2]
            · have hk2 : (tk.k != 93) = true := by rw [bne_iff_ne]; exact hk
              have h2 := HU.out
              unfold moreN at h2
              rw [if_neg hk] at h2
              have HRR := Lib.hid h2
              clear h2 HU hk
              go_wp2_with fail
              go_at_call 61
              refine (HTK.out _ _ HR.out).mono ?_
              rintro e' W2 ⟨hG2, ⟨t2, hr2, rfl, hR2⟩ | ⟨a', e2, hr2, rfl⟩⟩
              · have hk44 : tk.k = 44 ∧ tokN s tk.q = .ok t2 := by
                  unfold takeN at hr2
                  split at hr2
                  · exact ⟨‹_›, hr2⟩
                  · cases hr2
                have h2 := HRR.out
                rw [if_pos hk44.1, hk44.2] at h2
                simp only at h2
                have w2 := tokN_tw HT.out.2.2.1 hk44.2
                have hlt : tk.a < tk.q := HT.out.1.resolve_left (by rw [hk44.1]; decide)
                have hw2 := w2.1
                have HT2 := Lib.hid w2.2
                have HRR := Lib.hid h2
                have HI2 := Lib.hid (HI.out.keep hb hG2)
                have HF2 := Lib.hid (HF.out.trans (Fr.of hG2 (by omega)))
                have hn2 : n + 4 ≤ W2.heap.size := Nat.le_trans hnr hG2.size
                have HR2 := Lib.hid hR2
                clear hk44 hr2 h2 w2 hG2 hR2 q0 HR HT HI HF
                go_wp2_with fail
                go_at_call 59
                refine (HP.out _ _ _ _ HR2.out HT2.out HI2.out hn2 (by omega) (by omega) hks).mono ?_
                rintro e' W3 ⟨f3, ⟨y, hy, rfl, r3, i3⟩ | ⟨a', e2, hy, rfl⟩⟩
                · have h3 := HRR.out
                  rw [hy] at h3
                  simp only at h3
                  have w3 := HPF.out _ HT2.out y hy
                  have hyk := HPK.out _ y hy
                  have HRR := Lib.hid h3
                  have hw3 : t2.q ≤ y.2.2.a := w3.1
                  have HT3 := Lib.hid w3.2
                  have ht2a := HT2.out.2.2.2
                  have HF3 := Lib.hid (HF2.out.trans f3)
                  have hn3 : n + 4 ≤ W3.heap.size := Nat.le_trans hn2 f3.size
                  have HR3 := Lib.hid r3
                  have HI3 := Lib.hid i3
                  clear hy h3 w3 f3 r3 i3 HR2 HI2 HF2 HT2
                  go_wp2_with fail
                  go_roundg m
                  case measure => omega
                  case rel => exact ⟨m, y.2.2, ks ++ y.1, xs ++ [y.2.1], rfl, by omega, by simp only [List.length_append, List.length_cons, List.length_nil]; omega, by simp only [List.length_append, List.length_cons, List.length_nil]; omega, by rw [hks, hyk.2]; rfl, hn3, HR3.out, HT3.out, HI3.out, HF3.out, HRR.out⟩
                · refine ⟨rfl, HF2.out.trans f3, .inr ⟨a', e2, ?_, rfl⟩⟩
                  rw [HRR.out, hy]; rfl
              · refine ⟨rfl, HF.out.trans (Fr.of hG2 (by omega)), .inr ⟨a', e2, ?_, rfl⟩⟩
                rw [HRR.out]
                unfold takeN at hr2
                split at hr2
                · rename_i hk
                  rw [if_pos hk, hr2]; rfl
                · rename_i hk
                  rw [if_neg hk]
                  cases hr2; rfl
      · refine ⟨rfl, HF1.out.trans f2, .inr ⟨a', e2, ?_, rfl⟩⟩
        rw [HRR.out, hy]; rfl
  · refine ⟨rfl, Fr.of hG1 (by omega), .inr ⟨a', e2, ?_, rfl⟩⟩
    rw [HRR.out]
    unfold seqN
    rw [hr1]

set_option maxHeartbeats 4000000 in
theorem within_object {b n d c : Nat} {ar : Int} {A : Option Addr} {s : List UInt8} {w : World} {tk : Tk} {part : Tk → RR (List ByteArray × JV × Tk)} (hb : b < n) (har0 : 0 ≤ ar) (har1 : ar ≤ 31)
    (HP0 : ∀ W tk ks xs, Rd W b A c s tk.k (tk.a : Nat) tk.t tk.q → TW s tk → SeqI b n ar 7 d ks xs W → n + 4 ≤ W.heap.size → xs.length ≤ tk.a → ks.length ≤ tk.a →  Calls Tryd.prog 60 #[.pointer (some ⟨n, 0, none⟩), .pointer (some ⟨n + 3, 0, none⟩), .pointer (some ⟨n + 1, 0, none⟩)] W (PartOut n b A c s ar 7 d (part tk) ks xs W))
    (hpf : ∀ t, TW s t → Fwd s t (part t) (·.2.2)) (hpk : ∀ t x, part t = .ok x → x.1.length ≤ 1 )
    (hR : Rd w b A c s tk.k (tk.a : Nat) tk.t tk.q) (hT : TW s tk) (hq : 1 ≤ tk.q) (hI : SeqI b n ar 7 d [] [] w) (hn : n + 4 ≤ w.heap.size) :
    Calls Tryd.prog 58 #[.pointer (some ⟨b, 0, none⟩), .int .i64 ar, .int .i64 125, .func (.func 60) #[] #[.pointer (some ⟨n, 0, none⟩), .pointer (some ⟨n + 3, 0, none⟩), .pointer (some ⟨n + 1, 0, none⟩)]] w (SeqOut n b A c s ar 7 d (seqN s part 125 tk) w) := by
  obtain ⟨rr, hrr⟩ : ∃ r, r = seqN s part 125 tk := ⟨_, rfl⟩
  rw [← hrr]
  have hne32 : ((ar : Int) == 32) = false := by rw [beq_eq_false_iff_ne]; omega
  have HP := Lib.hid HP0
  have HPF := Lib.hid hpf
  have HPK := Lib.hid hpk
  have HRR := Lib.hid hrr
  have HN := Lib.hid (fun W (t : Tk) (hR : Rd W b A c s t.k (t.a : Nat) t.t t.q) => nextK hR)
  have HTK := Lib.hid (fun W (t : Tk) (hR : Rd W b A c s t.k (t.a : Nat) t.t t.q) => take_any hR 44)
  have HI := Lib.hid hI
  have HW := Lib.hid (Fr.refl n b w)
  have htq := hT.2.2.1
  clear HP0 hpf hpk hrr hI
  go_enter Tryd.func58, Tryd.ntmps58
  go_wp2_with fail
  go_at_call 22
  refine (HN.out _ _ hR).mono ?_
  rintro e' W1 ⟨hG1, ⟨t1, hr1, rfl, hR1⟩ | ⟨a', e2, hr1, rfl⟩⟩
  · have w1 := tokN_tw htq hr1
    have h1 := HRR.out
    rw [seqN_end hr1] at h1
    have HRR := Lib.hid h1
    have HF1 := Lib.hid (Fr.of hG1 (show n ≤ w.heap.size by omega))
    have HI1 := Lib.hid (HI.out.keep hb hG1)
    have hn1 : n + 4 ≤ W1.heap.size := Nat.le_trans hn hG1.size
    obtain ⟨q0, q1, q2, q3, q4⟩ := hR1.cells
    have HR1 := Lib.hid hR1
    have hw1 := w1.1
    have HT1 := Lib.hid w1.2
    clear hr1 h1 hG1 hR1 HI hR hT w1 q1 q2 q3 q4
    by_cases hk : t1.k = 125
    · have hk2 : (t1.k != 125) = false := by rw [hk]; rfl
      have h2 := HRR.out
      unfold firstN at h2
      rw [if_pos hk] at h2
      have HRR := Lib.hid h2
      clear h2
      go_wp2_with fail
      go_at_call 22
      refine (HN.out _ _ HR1.out).mono ?_
      rintro e' W2 ⟨hG2, ⟨t2, hr2, rfl, hR2⟩ | ⟨a', e2, hr2, rfl⟩⟩
      · have HI2 := Lib.hid (HI1.out.keep hb hG2)
        have HF2 := Lib.hid (HF1.out.trans (Fr.of hG2 (by omega)))
        have HR2 := Lib.hid hR2
        have HR2E := Lib.hid hr2
        clear hG2 hR2 hr2
        go_wp2_with fail
        refine bodyPost_end (results_none rfl _ _ _) rfl ?_
        refine ⟨HF2.out, .inl ⟨(([], []), t2), ?_, rfl, HR2.out, HI2.out⟩⟩
        rw [HRR.out, endN]
        simp only
        rw [HR2E.out]
      · refine ⟨rfl, HF1.out.trans (Fr.of hG2 (by omega)), .inr ⟨a', e2, ?_, rfl⟩⟩
        rw [HRR.out, endN]
        simp only
        rw [hr2]
    · have hk2 : (t1.k != 125) = true := by rw [bne_iff_ne]; exact hk
      have h2 := HRR.out
      unfold firstN at h2
      rw [if_neg hk] at h2
      have HRR := Lib.hid h2
      clear h2 hk
      go_wp2_with fail
      go_at_call 60
      refine (HP.out _ _ _ _ HR1.out HT1.out HI1.out hn1 (by simp) (by simp) ).mono ?_
      rintro e' W2 ⟨f2, ⟨y, hy, rfl, r2, i2⟩ | ⟨a', e2, hy, rfl⟩⟩
      · have h3 := HRR.out
        rw [hy] at h3
        simp only at h3
        have w2 := HPF.out _ HT1.out y hy
        have hyk := HPK.out _ y hy
        have HRR := Lib.hid h3
        have hw2 : t1.q ≤ y.2.2.a := w2.1
        have HT2 := Lib.hid w2.2
        have ht1a := HT1.out.2.2.2
        have HF2 := Lib.hid (HF1.out.trans f2)
        have hn2 : n + 4 ≤ W2.heap.size := Nat.le_trans hn1 f2.size
        have HR2 := Lib.hid r2
        have HI2 := Lib.hid i2
        clear hy h3 w2 f2 r2 i2 q0
        go_wp2_with fail
        go_loopg [] (s.length + 1) (fun gk wr => ∃ (m : Nat) (tk : Tk) (ks : List ByteArray) (xs : List JV), gk = m ∧ s.length < m + tk.a ∧ xs.length ≤ tk.a ∧ ks.length ≤ xs.length ∧  n + 4 ≤ wr.heap.size ∧ Hid (Rd wr b A c s tk.k (tk.a : Nat) tk.t tk.q) ∧ Hid (TW s tk) ∧ Hid (SeqI b n ar 7 d ks xs wr) ∧ Hid (Fr n b w wr) ∧ Hid (rr = endN s (moreN s part 125 m tk ks xs)))
        case atStart => exact ⟨s.length + 1, y.2.2, y.1, [y.2.1], rfl, by omega, by simp only [List.length_cons, List.length_nil]; omega, by simp only [List.length_cons, List.length_nil]; omega,  hn2, HR2.out, HT2.out, by have := HI2.out; rw [List.nil_append, List.nil_append] at this; exact this, HF2.out, HRR.out⟩
        case round =>
          clear HR2 HT2 HI2 HF2 HRR hn2 HR1 HT1 HI1 HF1 hyk hw2 ht1a hn1
          obtain ⟨m, tk, ks, xs, hgk, hm, hxl, hkl,  hnr, HR, HT, HI, HF, HU⟩ := hrel
          have hta := HT.out.2.1
          obtain ⟨q0, q1, q2, q3, q4⟩ := HR.out.cells
          clear q1 q2 q3 q4
          cases m with
          | zero => omega
          | succ m =>
            by_cases hk : tk.k = 125
            · have hk2 : (tk.k != 125) = false := by rw [hk]; rfl
              have h2 := HU.out
              unfold moreN at h2
              rw [if_pos hk] at h2
              have HRR := Lib.hid h2
              clear h2 HU hk
              go_wp2_with fail
              go_at_call 22
              refine (HN.out _ _ HR.out).mono ?_
              rintro e' W2 ⟨hG2, ⟨t2, hr2, rfl, hR2⟩ | ⟨a', e2, hr2, rfl⟩⟩
              · have HI2 := Lib.hid (HI.out.keep hb hG2)
                have HF2 := Lib.hid (HF.out.trans (Fr.of hG2 (by omega)))
                have HR2 := Lib.hid hR2
                have HR2E := Lib.hid hr2
                clear hG2 hR2 hr2
                go_wp2_with fail
                refine bodyPost_end (results_none rfl _ _ _) rfl ?_
                refine ⟨HF2.out, .inl ⟨((ks, xs), t2), ?_, rfl, HR2.out, HI2.out⟩⟩
                rw [HRR.out, endN]
                simp only
                rw [HR2E.out]
              · refine ⟨rfl, HF.out.trans (Fr.of hG2 (by omega)), .inr ⟨a', e2, ?_, rfl⟩⟩
                rw [HRR.out, endN]
                simp only
                rw [hr2]
            · have hk2 : (tk.k != 125) = true := by rw [bne_iff_ne]; exact hk
              have h2 := HU.out
              unfold moreN at h2
              rw [if_neg hk] at h2
              have HRR := Lib.hid h2
              clear h2 HU hk
              go_wp2_with fail
              go_at_call 61
              refine (HTK.out _ _ HR.out).mono ?_
              rintro e' W2 ⟨hG2, ⟨t2, hr2, rfl, hR2⟩ | ⟨a', e2, hr2, rfl⟩⟩
              · have hk44 : tk.k = 44 ∧ tokN s tk.q = .ok t2 := by
                  unfold takeN at hr2
                  split at hr2
                  · exact ⟨‹_›, hr2⟩
                  · cases hr2
                have h2 := HRR.out
                rw [if_pos hk44.1, hk44.2] at h2
                simp only at h2
                have w2 := tokN_tw HT.out.2.2.1 hk44.2
                have hlt : tk.a < tk.q := HT.out.1.resolve_left (by rw [hk44.1]; decide)
                have hw2 := w2.1
                have HT2 := Lib.hid w2.2
                have HRR := Lib.hid h2
                have HI2 := Lib.hid (HI.out.keep hb hG2)
                have HF2 := Lib.hid (HF.out.trans (Fr.of hG2 (by omega)))
                have hn2 : n + 4 ≤ W2.heap.size := Nat.le_trans hnr hG2.size
                have HR2 := Lib.hid hR2
                clear hk44 hr2 h2 w2 hG2 hR2 q0 HR HT HI HF
                go_wp2_with fail
                go_at_call 60
                refine (HP.out _ _ _ _ HR2.out HT2.out HI2.out hn2 (by omega) (by omega) ).mono ?_
                rintro e' W3 ⟨f3, ⟨y, hy, rfl, r3, i3⟩ | ⟨a', e2, hy, rfl⟩⟩
                · have h3 := HRR.out
                  rw [hy] at h3
                  simp only at h3
                  have w3 := HPF.out _ HT2.out y hy
                  have hyk := HPK.out _ y hy
                  have HRR := Lib.hid h3
                  have hw3 : t2.q ≤ y.2.2.a := w3.1
                  have HT3 := Lib.hid w3.2
                  have ht2a := HT2.out.2.2.2
                  have HF3 := Lib.hid (HF2.out.trans f3)
                  have hn3 : n + 4 ≤ W3.heap.size := Nat.le_trans hn2 f3.size
                  have HR3 := Lib.hid r3
                  have HI3 := Lib.hid i3
                  clear hy h3 w3 f3 r3 i3 HR2 HI2 HF2 HT2
                  go_wp2_with fail
                  go_roundg m
                  case measure => omega
                  case rel => exact ⟨m, y.2.2, ks ++ y.1, xs ++ [y.2.1], rfl, by omega, by simp only [List.length_append, List.length_cons, List.length_nil]; omega, by simp only [List.length_append, List.length_cons, List.length_nil]; omega,  hn3, HR3.out, HT3.out, HI3.out, HF3.out, HRR.out⟩
                · refine ⟨rfl, HF2.out.trans f3, .inr ⟨a', e2, ?_, rfl⟩⟩
                  rw [HRR.out, hy]; rfl
              · refine ⟨rfl, HF.out.trans (Fr.of hG2 (by omega)), .inr ⟨a', e2, ?_, rfl⟩⟩
                rw [HRR.out]
                unfold takeN at hr2
                split at hr2
                · rename_i hk
                  rw [if_pos hk, hr2]; rfl
                · rename_i hk
                  rw [if_neg hk]
                  cases hr2; rfl
      · refine ⟨rfl, HF1.out.trans f2, .inr ⟨a', e2, ?_, rfl⟩⟩
        rw [HRR.out, hy]; rfl
  · refine ⟨rfl, Fr.of hG1 (by omega), .inr ⟨a', e2, ?_, rfl⟩⟩
    rw [HRR.out]
    unfold seqN
    rw [hr1]
end Go.Proofs.YtmjooghfghmngaaDoor
