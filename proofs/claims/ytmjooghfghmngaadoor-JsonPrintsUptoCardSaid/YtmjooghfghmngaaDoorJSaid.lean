/- What a string says. -/
import Derived.Test.YtmjooghfghmngaaDoorJBld
import Derived.Lib.OthersKept
import Derived.Lib.TrimU
namespace Go.Proofs.YtmjooghfghmngaaDoor
open Go.RowKit Go.Shelf Go.Lib

section
variable {W W' : World} {b B g : Nat} {A : Option Addr} {c : Nat} {s : List UInt8} {k a : Int} {t : ByteArray} {p : Nat} {bs : List Value}
theorem builder_kept (h : IsBuilderF 82 5 B g bs W) (hg : W.grownBy W' (some b)) (hb : b < B) : IsBuilderF 82 5 B g bs W' := by
  have one : ∀ q, BuilderAtF 82 5 B g q bs W → BuilderAtF 82 5 B g q bs W' := by
    rintro q ⟨h1, v, h2, h3, h4⟩
    refine ⟨h1, v, (hg.block g (blk_lt h2) (by simp; omega)).trans h2, h3.kept hg ?_, h4⟩
    cases ho : v.ownBlock with
    | none => exact .inl rfl
    | some k =>
      have := h3.lt k ho
      exact .inr (by simp; omega)
  exact h.imp (one _) (one _)
theorem Rd.under (h : Rd W b A c s k a t p) (hB : Below B W W') (hb : b < B) (hA : 0 < s.length → ∀ ad, A = some ad → ad.block < B) : Rd W' b A c s k a t p :=
  { h with
    blk := (hB.block _ hb).trans h.blk
    bytes := fun h0 => by
      obtain ⟨g, o, e, hc⟩ := h.bytes h0
      exact ⟨g, o, e, fun i hi => (hB.cell (p := ⟨g, o + i, none⟩) (hA h0 ⟨g, o, none⟩ e)).trans (hc i hi)⟩
    tabs := ⟨fun c hc => (hB.cell (p := ⟨_, c, none⟩) (by have := h.off.1; show 0 < B; omega)).trans (h.tabs.1 c hc), fun i hi => ⟨(hB.cell (p := ⟨_, 2 * i, none⟩) (by have := h.off.2; show 1 < B; omega)).trans (h.tabs.2 i hi).1, (hB.cell (p := ⟨_, 2 * i + 1, none⟩) (by have := h.off.2; show 1 < B; omega)).trans (h.tabs.2 i hi).2⟩⟩ }
theorem Rd.inLt (h : Rd W b A c s k a t p) : 0 < s.length → ∀ ad, A = some ad → ad.block < W.heap.size := fun h0 ad e => by
  obtain ⟨g, o, e', hc⟩ := h.bytes h0
  rw [e'] at e
  cases e
  exact World.block_lt_of_cell? W _ (hc 0 h0)
end

theorem charN_lt {s : List UInt8} {p r q : Nat} (h : charN s p = some (r, q)) : p < q := by
  unfold charN at h
  split at h
  · cases h
  · rename_i hn
    simp only [Option.some.injEq, Prod.mk.injEq] at h
    have : (runeAt s p).2 ≠ 0 := by
      intro h0
      unfold runeAt Lib.decodeGo at hn h0
      split at hn
      · simp at hn
      · rename_i hz
        rw [if_neg hz, Lib.decode_at] at h0
        have := Lib.decodeN_ge1 ((⟨(s.drop p).toArray⟩ : ByteArray).size - 0) (ByteArray.get! ⟨(s.drop p).toArray⟩ 0).toNat (ByteArray.get! ⟨(s.drop p).toArray⟩ (0 + 1)).toNat (ByteArray.get! ⟨(s.drop p).toArray⟩ (0 + 2)).toNat (ByteArray.get! ⟨(s.drop p).toArray⟩ (0 + 3)).toNat
        omega
    omega
theorem unitN_lt {s : List UInt8} {r q : Nat} : ∀ {m p n : Nat}, unitN s m p n = some (r, q) → p ≤ q ∧ (p ≤ s.length → q ≤ s.length)
  | 0, p, n, h => by
    simp only [unitN, Option.some.injEq, Prod.mk.injEq] at h
    omega
  | m + 1, p, n, h => by
    simp only [unitN, Option.bind_eq_some_iff] at h
    obtain ⟨x, hx, d, _, h3⟩ := h
    have h1 := charN_lt (q := x.2) (r := x.1) hx
    have h2 := unitN_lt h3
    refine ⟨by omega, fun hp => h2.2 (charN_le (r := x.1) (q := x.2) hx hp).1⟩
theorem codedN_lt {s : List UInt8} {p r q : Nat} (h : codedN s p = some (r, q)) : p ≤ q ∧ (p ≤ s.length → q ≤ s.length) := by
  simp only [codedN, Option.bind_eq_some_iff] at h
  obtain ⟨x, hx, h1⟩ := h
  have h2 := unitN_lt (r := x.1) (q := x.2) hx
  split at h1
  · cases h1; exact h2
  · simp only [Option.bind_eq_some_iff] at h1
    obtain ⟨y, hy, h3⟩ := h1
    have h4 := charN_lt (q := y.2) (r := y.1) hy
    split at h3
    · simp only [Option.bind_eq_some_iff] at h3
      obtain ⟨z, hz, h5⟩ := h3
      have h6 := charN_lt (q := z.2) (r := z.1) hz
      split at h5
      · simp only [Option.bind_eq_some_iff] at h5
        obtain ⟨u, hu, h7⟩ := h5
        have h8 := unitN_lt (r := u.1) (q := u.2) hu
        split at h7
        · simp only [Option.some.injEq, Prod.mk.injEq] at h7
          refine ⟨by omega, fun hp => ?_⟩
          have := (charN_le (r := y.1) (q := y.2) hy (h2.2 hp)).1
          have := (charN_le (r := z.1) (q := z.2) hz this).1
          have := h8.2 this
          omega
        · cases h7
      · cases h5
    · cases h3
theorem escN_lt {s : List UInt8} {p r q : Nat} (h : escN s p = some (r, q)) : p < q ∧ (p ≤ s.length → q ≤ s.length) := by
  simp only [escN, Option.bind_eq_some_iff] at h
  obtain ⟨x, hx, h1⟩ := h
  have h2 := charN_lt (q := x.2) (r := x.1) hx
  have h3 := fun hp => (charN_le (r := x.1) (q := x.2) hx hp).1
  repeat' split at h1
  all_goals first
    | (cases h1; done)
    | (simp only [Option.some.injEq, Prod.mk.injEq] at h1; exact ⟨by omega, fun hp => by have := h3 hp; omega⟩)
    | (cases h1; exact ⟨h2, h3⟩)
    | (have h4 := codedN_lt h1; exact ⟨by omega, fun hp => h4.2 (h3 hp)⟩)

theorem grew_under {w W2 W3 : World} {b B : Nat} (h : w.grownBy W2 (some b)) (hB : Below B W2 W3) (hw : w.heap.size ≤ B) : w.grownBy W3 (some b) :=
  ⟨hB.os.trans h.os, hB.tape.trans h.tape, hB.output.trans h.output, Nat.le_trans h.size hB.size, fun k hk hn => (hB.block k (by omega)).trans (h.block k hk hn)⟩

theorem hexV_lt {r d : Nat} (h : hexV r = some d) : d < 16 := by
  have := hexI_le r
  unfold hexV at h
  split at h
  · cases h
  · simp only [Option.some.injEq] at h
    split at h <;> omega
theorem unitN_val {s : List UInt8} {r q : Nat} : ∀ {m p n : Nat}, unitN s m p n = some (r, q) → r < (n + 1) * 16 ^ m
  | 0, p, n, h => by
    simp only [unitN, Option.some.injEq, Prod.mk.injEq] at h
    omega
  | m + 1, p, n, h => by
    simp only [unitN, Option.bind_eq_some_iff] at h
    obtain ⟨x, _, d, hd, h3⟩ := h
    have h1 := hexV_lt hd
    have h2 := unitN_val h3
    rw [Nat.pow_succ]
    have h4 : (n * 16 + d + 1) * 16 ^ m ≤ ((n + 1) * 16) * 16 ^ m := Nat.mul_le_mul_right _ (by omega)
    rw [Nat.mul_assoc, Nat.mul_comm 16] at h4
    omega
theorem codedN_rune {s : List UInt8} {p r q : Nat} (h : codedN s p = some (r, q)) : r ≤ 1114111 := by
  simp only [codedN, Option.bind_eq_some_iff] at h
  obtain ⟨x, hx, h1⟩ := h
  have h2 := unitN_val (r := x.1) (q := x.2) hx
  have h16 : 16 ^ 4 = 65536 := rfl
  split at h1
  · cases h1; omega
  · simp only [Option.bind_eq_some_iff] at h1
    obtain ⟨y, _, h3⟩ := h1
    split at h3
    · simp only [Option.bind_eq_some_iff] at h3
      obtain ⟨z, _, h5⟩ := h3
      split at h5
      · simp only [Option.bind_eq_some_iff] at h5
        obtain ⟨u, hu, h7⟩ := h5
        have h8 := unitN_val (r := u.1) (q := u.2) hu
        split at h7
        · simp only [Option.some.injEq, Prod.mk.injEq] at h7
          omega
        · cases h7
      · cases h5
    · cases h3
theorem escN_rune {s : List UInt8} {p r q : Nat} (hp : p ≤ s.length) (h : escN s p = some (r, q)) : r ≤ 1114111 := by
  simp only [escN, Option.bind_eq_some_iff] at h
  obtain ⟨x, hx, h1⟩ := h
  have h3 := (charN_le (r := x.1) (q := x.2) hx hp).2
  repeat' split at h1
  all_goals first
    | (cases h1; done)
    | (simp only [Option.some.injEq, Prod.mk.injEq] at h1; omega)
    | (cases h1; exact h3)
    | exact codedN_rune h1
theorem cells_rune (acc : List UInt8) (y : Int) : byteCells acc ++ runeCells y = byteCells (acc ++ encodeRune y) := by
  rw [← byteCells_encodeRune]; simp [byteCells]

/-- What a string says from a place on, and the place behind it. -/
def saidN (s : List UInt8) : Nat → Nat → Option (List UInt8 × Nat)
  | 0, _ => none
  | m + 1, p => (charN s p).bind fun x =>
    if x.1 = 34 then some ([], x.2)
    else if x.1 = 92 then (escN s x.2).bind fun y => (saidN s m y.2).map fun z => (Lib.encodeRune (y.1 : Int) ++ z.1, z.2)
    else if x.1 < 32 then none
    else (saidN s m x.2).map fun z => (Lib.encodeRune (x.1 : Int) ++ z.1, z.2)
def saidL (s : List UInt8) (p : Nat) : Option (Value × Nat) := (saidN s (s.length + 1) (p + 1)).map fun z => (.string ⟨z.1.toArray⟩, z.2)

set_option maxHeartbeats 2000000 in
theorem said_any {w : World} {b : Nat} {A : Option Addr} {c : Nat} {s : List UInt8} {k a : Int} {t : ByteArray} {p : Nat} (h : Rd w b A c s k a t p) (h0 : p < s.length) :
    Calls Tryd.prog 38 #[.pointer (some ⟨b, 0, none⟩)] w (Out b A c s k a t (saidL s p) w) := by
  obtain ⟨rr, hrr⟩ : ∃ r, r = saidL s p := ⟨_, rfl⟩
  rw [← hrr]
  unfold saidL at hrr
  have hsm := h.small
  have hs0 : 0 < s.length := by omega
  have HW := Lib.hid (fun W => wrong_any k a t 11 W)
  have HC := Lib.hid (fun W q (hR : Rd W b A c s k a t q) => charN_any hR hs0)
  have HE := Lib.hid (fun W q (hR : Rd W b A c s k a t q) => escaped_any hR hs0)
  have HRR := Lib.hid hrr
  clear hrr
  obtain ⟨d0, d1, d2, d3, d4⟩ := h.cells
  obtain ⟨f0, f1, f2, f3, f4⟩ := h.free
  have hbw := h.lt
  have hadd : IntKind.i64.wrap ((p : Int) + 1) = ((p + 1 : Nat) : Int) := by
    rw [IntWalk.i64_in _ (by omega)]; omega
  go_enter Tryd.func38, Tryd.ntmps38
  go_wp2_with fail
  have hR1 : Rd ((w.setCell ⟨b, 4, none⟩ (.int .i64 ((p : Int) + 1))).alloc (Obj.cells #[Value.pointer none, Value.slice none 0 0] 82)) b A c s k a t (p + 1) := (h.setP (p' := p + 1) (by omega)).alloc _
  have hI1 : IsBuilderF 82 5 w.heap.size w.heap.size (byteCells []) ((w.setCell ⟨b, 4, none⟩ (.int .i64 ((p : Int) + 1))).alloc (Obj.cells #[Value.pointer none, Value.slice none 0 0] 82)) :=
    .inl ⟨Nat.le_refl _, .slice none 0 0, by
      have := heap_alloc_new (w.setCell ⟨b, 4, none⟩ (.int .i64 ((p : Int) + 1))) (Obj.cells #[Value.pointer none, Value.slice none 0 0] 82)
      rwa [show (w.setCell ⟨b, 4, none⟩ (.int .i64 ((p : Int) + 1))).heap.size = w.heap.size by simp [World.setCell]] at this, World.ownsRowF_nil _ _ _ _, by simp [Value.ownBlock]⟩
  have hG1 : w.grownBy ((w.setCell ⟨b, 4, none⟩ (.int .i64 ((p : Int) + 1))).alloc (Obj.cells #[Value.pointer none, Value.slice none 0 0] 82)) (some b) := grew_alloc (grew_set (World.grownBy.refl w _) 4 _) _
  have HR1 := Lib.hid hR1
  have HI1 := Lib.hid hI1
  have HG1 := Lib.hid hG1
  have hgw : w.heap.size < ((w.setCell ⟨b, 4, none⟩ (.int .i64 ((p : Int) + 1))).alloc (Obj.cells #[Value.pointer none, Value.slice none 0 0] 82)).heap.size := by simp [World.setCell]
  have HA := Lib.hid h.inLt
  clear hR1 hI1 hG1 d0 d1 d2 d3 d4 f0 f1 f2 f3 f4 hadd h
  generalize (w.setCell ⟨b, 4, none⟩ (.int .i64 ((p : Int) + 1))).alloc (Obj.cells #[Value.pointer none, Value.slice none 0 0] 82) = W1 at *
  obtain ⟨g, hg⟩ : ∃ g, g = w.heap.size := ⟨_, rfl⟩
  rw [← hg] at HI1 hgw hbw HA
  rw [← hg]
  have HGG := Lib.hid hg
  clear hg
  go_loopg [] (s.length + 1) (fun gk wr => ∃ (m q : Nat) (acc : List UInt8), gk = m ∧ s.length < m + q ∧ acc.length ≤ 4 * q ∧ g < wr.heap.size ∧ Hid (Rd wr b A c s k a t q) ∧ Hid (IsBuilderF 82 5 g g (byteCells acc) wr) ∧ Hid (w.grownBy wr (some b)) ∧ Hid (rr = (saidN s m q).map fun z => (.string ⟨(acc ++ z.1).toArray⟩, z.2)))
  case atStart => exact ⟨s.length + 1, p + 1, [], rfl, by omega, by simp, hgw, HR1, HI1, HG1, HRR⟩
  case round =>
    obtain ⟨m, q, acc, hgk, hm, hacc, hgr, HR, HI, HG, HU⟩ := hrel
    have hqs := HR.out.pos
    cases m with
    | zero => omega
    | succ m =>
      go_wp2_with fail
      go_at_call 54
      refine (HC.out _ _ HR.out).mono ?_
      rintro e' W2 ⟨hG2, ⟨x, p1, hr, rfl, hR2⟩ | ⟨hr, rfl⟩⟩
      · have h1 := HU.out
        rw [saidN, hr, Option.bind_some] at h1
        simp only at h1
        have hlt := charN_lt hr
        have HRR := Lib.hid h1
        have HI2 := Lib.hid (builder_kept HI.out hG2 hbw)
        have HG2 := Lib.hid (HG.out.trans hG2)
        have hg2 : g < W2.heap.size := Nat.lt_of_lt_of_le hgr hG2.size
        have hrl := (charN_le hr hqs).2
        obtain ⟨q0, q1, q2, q3, q4⟩ := hR2.cells
        have HR2 := Lib.hid hR2
        clear hr h1 hR2 hG2 HU HR HI HG
        by_cases hx34 : x = 34
        · subst hx34
          have HS := Lib.hid (Tryd.Builder_String_any_f g g acc W2 HI2.out (by omega))
          go_wp2_with (go_at_call 55; (with_reducible refine HS.out.mono ?_); rintro e' W3 ⟨rfl, hI3, hB3⟩; have HB3 := Lib.hid hB3; clear hB3 hI3)
          go_ret
          refine Out.yes (p' := p1) ?_ (HR2.out.under HB3.out hbw HA.out) ?_
          · rw [HRR.out]
            simp only [if_true, Option.map_some, List.append_nil]
            rfl
          · exact grew_under HG2.out HB3.out (by rw [HGG.out]; exact Nat.le_refl _)
        · have hx1 : ((x : Int) == 34) = false := by rw [beq_eq_false_iff_ne]; omega
          have h1 := HRR.out
          rw [if_neg hx34] at h1
          clear HRR hx34
          by_cases hx92 : x = 92
          · subst hx92
            rw [if_pos rfl] at h1
            have HRR := Lib.hid h1
            clear h1
            go_wp2_with fail
            go_at_call 56
            refine (HE.out _ _ HR2.out).mono ?_
            rintro e' W3 ⟨hG3, ⟨y, p2, hr, rfl, hR3⟩ | ⟨hr, rfl⟩⟩
            · have h1 := HRR.out
              rw [hr, Option.bind_some] at h1
              simp only at h1
              have hlt2 := escN_lt hr
              have HRR := Lib.hid h1
              have HI3 := Lib.hid (builder_kept HI2.out hG3 hbw)
              have HG3 := Lib.hid (HG2.out.trans hG3)
              have hg3 : g < W3.heap.size := Nat.lt_of_lt_of_le hg2 hG3.size
              have HR3 := Lib.hid hR3
              have hyl := escN_rune HR2.out.pos hr
              clear hr h1 hR3 hG3 HR2 HI2 HG2
              have HS := Lib.hid (writeRune_any (y : Int) HI3.out (by omega) (by omega) (by simp [byteCells]; omega) (by omega))
              go_wp2_with (go_at_call 57; (with_reducible refine HS.out.mono ?_); rintro e' W4 ⟨rfl, hI4, hB4⟩; have HB4 := Lib.hid hB4; have HI4 := Lib.hid hI4; clear hB4 hI4)
              have HR4 := Lib.hid (HR3.out.under HB4.out hbw HA.out)
              have HG4 := Lib.hid (grew_under HG3.out HB4.out (by rw [HGG.out]; exact Nat.le_refl _))
              have HI5 := HI4.out
              rw [cells_rune] at HI5
              have hg4 := Nat.lt_of_lt_of_le hg3 HB4.out.size
              have hle4 := (runeCells_le (y : Int)).2
              rw [runeCells_length] at hle4
              go_roundg m
              case measure => omega
              case rel =>
                refine ⟨m, p2, acc ++ encodeRune (y : Int), rfl, by omega, by simp only [List.length_append]; omega, hg4, HR4.out, HI5, HG4.out, ?_⟩
                show rr = _
                rw [HRR.out, Option.map_map]
                congr 1
                funext z
                simp
            · refine ⟨rfl, ?_⟩
              refine Out.no ?_ (HG2.out.trans hG3)
              rw [HRR.out, hr]
              rfl
          · have hx2 : ((x : Int) == 92) = false := by rw [beq_eq_false_iff_ne]; omega
            rw [if_neg hx92] at h1
            by_cases hx32 : x < 32
            · rw [if_pos hx32] at h1
              have HRR := Lib.hid h1
              clear h1
              have hx3 : (x : Int) < 32 := by omega
              go_wp2_with (go_at_call 41; (with_reducible refine (HW.out _).mono ?_); rintro e' Wk ⟨rfl, hBi⟩; have HB2 := Lib.hid hBi; clear hBi)
              refine ⟨rfl, Out.no ?_ (HG2.out.trans (grew_of HB2.out _))⟩
              rw [HRR.out]
              rfl
            · rw [if_neg hx32] at h1
              have HRR := Lib.hid h1
              clear h1
              have hx3 : ¬ (x : Int) < 32 := by omega
              have HS := Lib.hid (writeRune_any (x : Int) HI2.out (by omega) (by omega) (by simp [byteCells]; omega) (by omega))
              go_wp2_with (go_at_call 57; (with_reducible refine HS.out.mono ?_); rintro e' W4 ⟨rfl, hI4, hB4⟩; have HB4 := Lib.hid hB4; have HI4 := Lib.hid hI4; clear hB4 hI4)
              have HR4 := Lib.hid (HR2.out.under HB4.out hbw HA.out)
              have HG4 := Lib.hid (grew_under HG2.out HB4.out (by rw [HGG.out]; exact Nat.le_refl _))
              have HI5 := HI4.out
              rw [cells_rune] at HI5
              have hg4 := Nat.lt_of_lt_of_le hg2 HB4.out.size
              have hle4 := (runeCells_le (x : Int)).2
              rw [runeCells_length] at hle4
              go_roundg m
              case measure => omega
              case rel =>
                refine ⟨m, p1, acc ++ encodeRune (x : Int), rfl, by omega, by simp only [List.length_append]; omega, hg4, HR4.out, HI5, HG4.out, ?_⟩
                show rr = _
                rw [HRR.out, Option.map_map]
                congr 1
                funext z
                simp
      · refine ⟨rfl, ?_⟩
        refine Out.no ?_ (HG.out.trans hG2)
        rw [HU.out, saidN, hr]
        rfl
end Go.Proofs.YtmjooghfghmngaaDoor
