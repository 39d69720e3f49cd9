/- The document's Same: of what stands for one and the same value it says so. -/
import Derived.Test.YtmjooghfghmngaaDoorJAns
import Derived.Test.YtmjooghfghmngaaDoorJBlk
namespace Go.Proofs.YtmjooghfghmngaaDoor
open Go.RowKit Go.Shelf Go.Lib

theorem VAt.pos {W : World} {F : Nat → Prop} {d : Nat} {p : PV} {x : JV} (h : VAt W F d p x) : ∃ e, d = e + 1 := by
  cases d with
  | zero => exact h.elim
  | succ e => exact ⟨e, rfl⟩

/-- No list in it is longer than that. -/
def SM (N : Nat) : Nat → JV → Prop
  | 0, _ => True
  | d + 1, .mk _ _ ks xs => ks.length ≤ N ∧ xs.length ≤ N ∧ ∀ x ∈ xs, SM N d x
section
variable {s : List UInt8}
theorem more_sm {P : JV → Prop} {part : Tk → RR (List ByteArray × JV × Tk)} {last : Int} (hp : ∀ t x, part t = .ok x → P x.2.1 ∧ x.1.length ≤ 1) : ∀ (m : Nat) (tk : Tk) (ks : List ByteArray) (xs : List JV), (∀ x ∈ xs, P x) → ∀ y, moreN s part last m tk ks xs = .ok y → (∀ x ∈ y.1.2, P x) ∧ y.1.1.length ≤ ks.length + m ∧ y.1.2.length ≤ xs.length + m
  | 0, _, _, _, _, y, h => by cases h
  | m + 1, tk, ks, xs, hx, y, h => by
    unfold moreN at h
    split at h
    · cases h; exact ⟨hx, Nat.le_add_right _ _, Nat.le_add_right _ _⟩
    · split at h
      · split at h
        · cases h
        · rename_i t1 h1
          split at h
          · cases h
          · rename_i z hz
            obtain ⟨p1, p2⟩ := hp t1 z hz
            obtain ⟨r1, r2, r3⟩ := more_sm hp m z.2.2 (ks ++ z.1) (xs ++ [z.2.1]) (fun x hx' => by
              rcases List.mem_append.1 hx' with h' | h'
              · exact hx x h'
              · rw [List.mem_singleton] at h'; rw [h']; exact p1) y h
            simp only [List.length_append, List.length_cons, List.length_nil] at r2 r3
            exact ⟨r1, by omega, by omega⟩
      · cases h
theorem seq_sm {P : JV → Prop} {part : Tk → RR (List ByteArray × JV × Tk)} {last : Int} (hp : ∀ t x, part t = .ok x → P x.2.1 ∧ x.1.length ≤ 1) {tk : Tk} {y : (List ByteArray × List JV) × Tk} (h : seqN s part last tk = .ok y) : (∀ x ∈ y.1.2, P x) ∧ y.1.1.length ≤ s.length + 2 ∧ y.1.2.length ≤ s.length + 2 := by
  unfold seqN at h
  split at h
  · cases h
  · rename_i t1 h1
    split at h
    · cases h
    · rename_i z hz
      split at h
      · cases h
      · rename_i t4 h4
        cases h
        unfold firstN at hz
        split at hz
        · cases hz; exact ⟨fun x hx => (by cases hx), Nat.zero_le _, Nat.zero_le _⟩
        · split at hz
          · cases hz
          · rename_i v hv
            obtain ⟨p1, p2⟩ := hp t1 v hv
            obtain ⟨r1, r2, r3⟩ := more_sm hp (s.length + 1) v.2.2 v.1 [v.2.1] (fun x hx => by rw [List.mem_singleton] at hx; rw [hx]; exact p1) z hz
            simp only [List.length_cons, List.length_nil] at r3
            exact ⟨r1, by show z.1.1.length ≤ _; omega, by show z.1.2.length ≤ _; omega⟩
theorem val_sm : ∀ (d : Nat) (tk : Tk) (x : JV) (t : Tk), valN s d tk = .ok (x, t) → SM (s.length + 2) (d + 1) x
  | d, tk, x, t, h => by
    unfold valN at h
    split at h
    · split at h
      · cases h
      · rename_i d
        split at h
        · cases h
        · rename_i y hy
          cases h
          obtain ⟨h1, h2, h3⟩ := seq_sm (P := SM (s.length + 2) (d + 1)) (fun t x hx => by
            unfold listPart at hx
            split at hx
            · rename_i z hz
              cases hx
              exact ⟨val_sm d t z.1 z.2 hz, by simp⟩
            · cases hx) hy
          exact ⟨h2, h3, h1⟩
    · split at h
      · split at h
        · cases h
        · rename_i d
          split at h
          · cases h
          · rename_i y hy
            cases h
            obtain ⟨h1, h2, h3⟩ := seq_sm (P := SM (s.length + 2) (d + 1)) (fun t x hx => by
              unfold objPart at hx
              split at hx
              · split at hx
                · cases hx
                · split at hx
                  · split at hx
                    · cases hx
                    · split at hx
                      · rename_i z hz
                        cases hx
                        exact ⟨val_sm d _ z.1 z.2 hz, by simp⟩
                      · cases hx
                  · cases hx
              · cases hx) hy
            exact ⟨h2, h3, h1⟩
      · split at h
        · split at h
          · cases h
          · cases h
            exact ⟨by simp, by simp, fun x hx => by cases hx⟩
        · cases h
theorem parse_sm {x : JV} (h : parseN s = .ok x) : SM (s.length + 2) 33 x := by
  obtain ⟨t, t1, _, h2, _⟩ := parse_parts h
  exact val_sm 32 t x t1 h2
end
theorem below_drewN {n : Nat} {w X : World} (h : Below n w X) (k : Nat) : Below n w (X.drewN k) := ⟨h.os, h.tape, h.output, h.size, h.block⟩
/-- Of what stands for one value, in blocks that are there, Same is true. -/
def SameAt (d d' : Nat) : Prop := ∀ (W : World) (F F' : Nat → Prop) (p q : PV) (x : JV), VAt W F d p x → VAt W F' d' q x → (∀ g, F g → g < W.heap.size) → (∀ g, F' g → g < W.heap.size) → SM 4611686018427387904 d x →
    Calls Tryd.prog 14 #[PV.val p, PV.val q] W fun e w' => e = .returned (.bool true) ∧ Below W.heap.size W w'
set_option maxHeartbeats 2000000 in
theorem same_step {d d' : Nat} (hI : SameAt d d') {W : World} {F F' : Nat → Prop} {k : Int} {t : ByteArray} {ks : List ByteArray} {xs : List JV} {A1 A2 B1 B2 : Option Addr} {c1 c2 b1 b2 : Nat}
    (hk1 : ∀ i t, ks[i]? = some t → ∃ g o, A1 = some ⟨g, o, none⟩ ∧ F g ∧ W.cell? ⟨g, o + i, none⟩ = some (.string t)) (hk2 : ∀ i t, ks[i]? = some t → ∃ g o, B1 = some ⟨g, o, none⟩ ∧ F' g ∧ W.cell? ⟨g, o + i, none⟩ = some (.string t))
    (hx1 : ∀ i x, xs[i]? = some x → ∃ g o y, A2 = some ⟨g, o, none⟩ ∧ F g ∧ W.cell? ⟨g, o + i * 4, none⟩ = some (.int .i64 y.k) ∧ W.cell? ⟨g, o + i * 4 + 1, none⟩ = some (.string y.t) ∧ W.cell? ⟨g, o + i * 4 + 2, none⟩ = some y.kv ∧ W.cell? ⟨g, o + i * 4 + 3, none⟩ = some y.lv ∧ VAt W F d y x)
    (hx2 : ∀ i x, xs[i]? = some x → ∃ g o y, B2 = some ⟨g, o, none⟩ ∧ F' g ∧ W.cell? ⟨g, o + i * 4, none⟩ = some (.int .i64 y.k) ∧ W.cell? ⟨g, o + i * 4 + 1, none⟩ = some (.string y.t) ∧ W.cell? ⟨g, o + i * 4 + 2, none⟩ = some y.kv ∧ W.cell? ⟨g, o + i * 4 + 3, none⟩ = some y.lv ∧ VAt W F' d' y x)
    (hF : ∀ g, F g → g < W.heap.size) (hF' : ∀ g, F' g → g < W.heap.size) (hks : ks.length ≤ 4611686018427387904) (hxs : xs.length ≤ 4611686018427387904) (hsm : ∀ x ∈ xs, SM 4611686018427387904 d x) :
    Calls Tryd.prog 14 #[.agg #[.int .i64 k, .string t, .slice A1 ks.length c1, .slice A2 xs.length c2], .agg #[.int .i64 k, .string t, .slice B1 ks.length b1, .slice B2 xs.length b2]] W fun e w' => e = .returned (.bool true) ∧ Below W.heap.size W w' := by
  have HSM := Lib.hid hsm
  clear hsm
  obtain ⟨n, hn⟩ : ∃ n, n = W.heap.size := ⟨_, rfl⟩
  have IH := Lib.hid hI
  have HK1 := Lib.hid hk1
  have HK2 := Lib.hid hk2
  have HX1 := Lib.hid hx1
  have HX2 := Lib.hid hx2
  have HF := Lib.hid hF
  have HF' := Lib.hid hF'
  clear hk1 hk2 hx1 hx2 hF hF' hI
  go_enter Tryd.func14, Tryd.ntmps14
  go_upto_region 1 with (fail)
  have B1' : Below W.heap.size W ((W.alloc (Obj.cells #[.int .i64 k, .string t, .slice A1 ks.length c1, .slice A2 xs.length c2] 25)).alloc (Obj.cells #[.int .i64 k, .string t, .slice B1 ks.length b1, .slice B2 xs.length b2] 25)) := by go_grown
  have v0 := heap_alloc_new W (Obj.cells #[.int .i64 k, .string t, .slice A1 ks.length c1, .slice A2 xs.length c2] 25)
  have v1 := heap_alloc_new (W.alloc (Obj.cells #[.int .i64 k, .string t, .slice A1 ks.length c1, .slice A2 xs.length c2] 25)) (Obj.cells #[.int .i64 k, .string t, .slice B1 ks.length b1, .slice B2 xs.length b2] 25)
  simp only [World.size_alloc] at v1
  have v0' := blk_alloc v0 (Obj.cells #[.int .i64 k, .string t, .slice B1 ks.length b1, .slice B2 xs.length b2] 25)
  clear v0
  generalize ((W.alloc (Obj.cells #[.int .i64 k, .string t, .slice A1 ks.length c1, .slice A2 xs.length c2] 25)).alloc (Obj.cells #[.int .i64 k, .string t, .slice B1 ks.length b1, .slice B2 xs.length b2] 25)) = W1 at *
  rw [← hn] at v0' v1 ⊢
  have hW1 : n + 1 < W1.heap.size := blk_lt v1
  -- what both boxes hold, as long as only what is new turns
  have HC : Hid (∀ wr, Below W1.heap.size W1 wr → (wr.cell? ⟨n, 0, none⟩ = some (.int .i64 k) ∧ wr.cell? ⟨n, 1, none⟩ = some (.string t) ∧ wr.cell? ⟨n, 2, none⟩ = some (.slice A1 ks.length c1) ∧ wr.cell? ⟨n, 3, none⟩ = some (.slice A2 xs.length c2)) ∧
      (wr.cell? ⟨n + 1, 0, none⟩ = some (.int .i64 k) ∧ wr.cell? ⟨n + 1, 1, none⟩ = some (.string t) ∧ wr.cell? ⟨n + 1, 2, none⟩ = some (.slice B1 ks.length b1) ∧ wr.cell? ⟨n + 1, 3, none⟩ = some (.slice B2 xs.length b2))) := fun wr hb => by
    have h0 := (hb.block n (by omega)).trans v0'
    have h1 := (hb.block (n + 1) hW1).trans v1
    exact ⟨⟨blk_cell h0 0, blk_cell h0 1, blk_cell h0 2, blk_cell h0 3⟩, blk_cell h1 0, blk_cell h1 1, blk_cell h1 2, blk_cell h1 3⟩
  have HBW := Lib.hid B1'
  have HW1 := Lib.hid hW1
  obtain ⟨⟨q0, q1, q2, q3⟩, r0, r1, r2, r3⟩ := HC.out W1 (Below.refl _ _)
  have HN := Lib.hid hn
  clear v0' v1 B1' hW1 hn
  go_wp2_with fail
  clear q0 q1 q2 q3 r0 r1 r2 r3
  go_loopw [5] (fun i wr => ∃ j : Nat, i = .int .i64 j ∧ j ≤ ks.length ∧ Hid (Below W1.heap.size W1 wr)) (fun i _ => ks.length - (RowKit.intOf i).toNat)
  case atStart => exact ⟨0, rfl, by omega, Below.refl _ _⟩
  case round =>
    obtain ⟨j, rfl, hj, HB⟩ := hrel
    obtain ⟨⟨q0, q1, q2, q3⟩, r0, r1, r2, r3⟩ := HC.out _ HB.out
    by_cases hlt : j < ks.length
    · have hl : (j : Int) < (ks.length : Int) := by omega
      have hl0 : (0 : Int) ≤ (j : Int) := by omega
      obtain ⟨u, hu⟩ : ∃ u, ks[j]? = some u := ⟨ks[j], List.getElem?_eq_getElem hlt⟩
      obtain ⟨ga, oa, hAe, hga, ca⟩ := HK1.out j u hu
      obtain ⟨gb, ob, hBe, hgb, cb⟩ := HK2.out j u hu
      have hlb : Below W.heap.size W wr := HBW.out.trans (HB.out.mono HBW.out.size)
      have s1 := (cell_keep (hlb.block ga (HF.out ga hga)) (oa + j)).trans ca
      have s2 := (cell_keep (hlb.block gb (HF'.out gb hgb)) (ob + j)).trans cb
      subst hAe hBe
      clear ca cb hu hga hgb hlb
      go_wp2_with fail
      go_quiet (fail)
      go_wp2_with fail
      exact ⟨⟨j + 1, by go_num, by omega, below_drewN HB.out _⟩, by simp [RowKit.intOf]; omega⟩
    · have hl : ¬ (j : Int) < (ks.length : Int) := by omega
      have HB2 := HB
      clear HK1 HK2 hj hlt
      go_wp2_with fail
      clear q0 q1 q2 q3 r0 r1 r2 r3 hl
      go_loopw [6] (fun i w2 => ∃ m : Nat, i = .int .i64 m ∧ m ≤ xs.length ∧ Hid (Below W1.heap.size W1 w2)) (fun i _ => xs.length - (RowKit.intOf i).toNat)
      case atStart => exact ⟨0, rfl, by omega, HB2.out⟩
      case round =>
        obtain ⟨m, rfl, hm, HB3⟩ := hrel
        obtain ⟨⟨q0, q1, q2, q3⟩, r0, r1, r2, r3⟩ := HC.out _ HB3.out
        by_cases hlt : m < xs.length
        · have hl : (m : Int) < (xs.length : Int) := by omega
          have hl0 : (0 : Int) ≤ (m : Int) := by omega
          obtain ⟨x, hx⟩ : ∃ x, xs[m]? = some x := ⟨xs[m], List.getElem?_eq_getElem hlt⟩
          obtain ⟨ga, oa, ⟨y1k, y1t, y1v, y1l⟩, hAe, hga, a0, a1, a2, a3, hv1⟩ := HX1.out m x hx
          obtain ⟨gb, ob, ⟨y2k, y2t, y2v, y2l⟩, hBe, hgb, b0, b1', b2', b3, hv2⟩ := HX2.out m x hx
          obtain ⟨e, he⟩ := hv1.pos
          obtain ⟨e', he'⟩ := hv2.pos
          have hs1 := VAt.slices (he ▸ hv1)
          have hs2 := VAt.slices (he' ▸ hv2)
          obtain ⟨P1, pn, pc, P2, pm, pe, rfl, rfl⟩ := hs1
          obtain ⟨Q1, qn, qc, Q2, qm, qe, rfl, rfl⟩ := hs2
          simp only at a0 a1 a2 a3 b0 b1' b2' b3
          have hlb : Below W.heap.size W wr := HBW.out.trans (HB3.out.mono HBW.out.size)
          have HS : Hid (∀ W0, Below wr.heap.size wr W0 → Calls Tryd.prog 14 #[.agg #[.int .i64 y1k, .string y1t, .slice P1 pn pc, .slice P2 pm pe], .agg #[.int .i64 y2k, .string y2t, .slice Q1 qn qc, .slice Q2 qm qe]] W0 fun e w' => e = .returned (.bool true) ∧ Below wr.heap.size wr w') := fun W0 hb =>
            have hlb2 : Below W.heap.size W W0 := hlb.trans (hb.mono hlb.size)
            (IH.out W0 F F' ⟨y1k, y1t, .slice P1 pn pc, .slice P2 pm pe⟩ ⟨y2k, y2t, .slice Q1 qn qc, .slice Q2 qm qe⟩ x (hv1.keep fun g hg => ⟨hg, hlb2.block g (HF.out g hg)⟩) (hv2.keep fun g hg => ⟨hg, hlb2.block g (HF'.out g hg)⟩)
              (fun g hg => Nat.lt_of_lt_of_le (HF.out g hg) hlb2.size) (fun g hg => Nat.lt_of_lt_of_le (HF'.out g hg) hlb2.size) (HSM.out x (List.mem_of_getElem? hx))).mono fun e' w' ⟨h1, h2⟩ => ⟨h1, hb.trans (h2.mono hb.size)⟩
          subst hAe hBe
          have HK : Hid (∀ w0, Below wr.heap.size wr w0 → w0.cell? ⟨n, 3, none⟩ = some (.slice (some ⟨ga, oa, none⟩) xs.length c2) ∧ w0.cell? ⟨n + 1, 3, none⟩ = some (.slice (some ⟨gb, ob, none⟩) xs.length b2) ∧
              (w0.cell? ⟨ga, oa + m * 4, none⟩ = some (.int .i64 y1k) ∧ w0.cell? ⟨ga, oa + m * 4 + 1, none⟩ = some (.string y1t) ∧ w0.cell? ⟨ga, oa + m * 4 + 2, none⟩ = some (.slice P1 pn pc) ∧ w0.cell? ⟨ga, oa + m * 4 + 3, none⟩ = some (.slice P2 pm pe)) ∧
              (w0.cell? ⟨gb, ob + m * 4, none⟩ = some (.int .i64 y2k) ∧ w0.cell? ⟨gb, ob + m * 4 + 1, none⟩ = some (.string y2t) ∧ w0.cell? ⟨gb, ob + m * 4 + 2, none⟩ = some (.slice Q1 qn qc) ∧ w0.cell? ⟨gb, ob + m * 4 + 3, none⟩ = some (.slice Q2 qm qe))) := fun w0 hb => by
            have ha := (hb.block ga (Nat.lt_of_lt_of_le (HF.out ga hga) hlb.size)).trans (hlb.block ga (HF.out ga hga))
            have hbb := (hb.block gb (Nat.lt_of_lt_of_le (HF'.out gb hgb) hlb.size)).trans (hlb.block gb (HF'.out gb hgb))
            have hbx := HB3.out.trans (hb.mono HB3.out.size)
            obtain ⟨⟨_, _, _, z3⟩, _, _, _, z7⟩ := HC.out _ hbx
            exact ⟨z3, z7, ⟨(cell_keep ha _).trans a0, (cell_keep ha _).trans a1, (cell_keep ha _).trans a2, (cell_keep ha _).trans a3⟩, (cell_keep hbb _).trans b0, (cell_keep hbb _).trans b1', (cell_keep hbb _).trans b2', (cell_keep hbb _).trans b3⟩
          have HBR := Lib.hid (Below.refl wr.heap.size wr)
          have HBD : Hid (Below wr.heap.size wr wr.drew) := below_drew HBR.out
          clear a0 a1 a2 a3 b0 b1' b2' b3 hv1 hv2 he he' hx hga hgb hlb
          go_wp2_with fail
          go_region_held3 (fun w0 => w0.cell? ⟨n, 3, none⟩ = some (.slice (some ⟨ga, oa, none⟩) xs.length c2) ∧ w0.cell? ⟨n + 1, 3, none⟩ = some (.slice (some ⟨gb, ob, none⟩) xs.length b2) ∧
              (w0.cell? ⟨ga, oa + m * 4, none⟩ = some (.int .i64 y1k) ∧ w0.cell? ⟨ga, oa + m * 4 + 1, none⟩ = some (.string y1t) ∧ w0.cell? ⟨ga, oa + m * 4 + 2, none⟩ = some (.slice P1 pn pc) ∧ w0.cell? ⟨ga, oa + m * 4 + 3, none⟩ = some (.slice P2 pm pe)) ∧
              (w0.cell? ⟨gb, ob + m * 4, none⟩ = some (.int .i64 y2k) ∧ w0.cell? ⟨gb, ob + m * 4 + 1, none⟩ = some (.string y2t) ∧ w0.cell? ⟨gb, ob + m * 4 + 2, none⟩ = some (.slice Q1 qn qc) ∧ w0.cell? ⟨gb, ob + m * 4 + 3, none⟩ = some (.slice Q2 qm qe))) (first | exact HK.out _ HBR.out | exact HK.out _ HBD.out | exact HK.out _ (Hid.out (by assumption))) ((first
            | (go_at_call 14; (with_reducible refine (HS.out _ (by first | exact HBD.out | exact HBR.out)).mono ?_); rintro e'' Wi ⟨rfl, hBi⟩; have HBI := Lib.hid hBi; clear hBi)))
          go_wp2_with fail
          exact ⟨⟨m + 1, by go_num, by omega, HB3.out.trans (HBI.out.mono HB3.out.size)⟩, by simp [RowKit.intOf]; omega⟩
        · have hl : ¬ (m : Int) < (xs.length : Int) := by omega
          go_wp2_with fail
          go_ret
          exact ⟨rfl, HBW.out.trans (HB3.out.mono HBW.out.size)⟩
theorem same_any : ∀ (d d' : Nat), SameAt d d'
  | 0, _ => fun _ _ _ _ _ _ h => h.elim
  | d + 1, 0 => fun _ _ _ _ _ _ _ h => h.elim
  | d + 1, d' + 1 => fun W F F' ⟨pk, pt, pkv, plv⟩ ⟨qk, qt, qkv, qlv⟩ (.mk k t ks xs) hp hq hF hF' hsm => by
    obtain ⟨e1, e2, ⟨A1, c1, e3, hc1, hk1⟩, A2, c2, e4, hc2, hx1⟩ := hp
    obtain ⟨g1, g2, ⟨B1, b1, g3, hb1, hk2⟩, B2, b2, g4, hb2, hx2⟩ := hq
    simp only at e1 e2 e3 e4 g1 g2 g3 g4
    subst e1 e2 e3 e4 g1 g2 g3 g4
    exact same_step (same_any d d') hk1 hk2 hx1 hx2 hF hF' hsm.1 hsm.2.1 hsm.2.2
end Go.Proofs.YtmjooghfghmngaaDoor
