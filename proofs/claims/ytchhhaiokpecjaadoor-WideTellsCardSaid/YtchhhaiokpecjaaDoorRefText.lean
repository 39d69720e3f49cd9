/- The contract of the document's own answer: the digits, by tens, a part after the other. -/
import Derived.Test.YtchhhaiokpecjaaDoorRefMul
import Derived.Test.YtchhhaiokpecjaaDoorText
import Derived.Test.YtchhhaiokpecjaaDoorEqL
namespace Go.Proofs.YtchhhaiokpecjaaDoor
open Go.RowKit

/-- The number that digits are taken from, in a block of the call's own. -/
structure Tens (w : World) (gb gl : Nat) (h l : Int) (m : Int) (W : World) : Prop where
  b : W.heap[gb]? = some (.cells #[.int .i64 h, .int .u64 l] 25 (0, 0))
  n : W.heap[gl]? = some (.cells #[.int .u32 (lim0 m), .int .u32 (lim1 m), .int .u32 (lim2 m), .int .u32 (lim3 m), .int .u32 (lim4 m)] 50 (0, 0))
  below : Below w.heap.size w W
  lb : w.heap.size ≤ gb
  ll : gb < gl
section
variable {w W W' : World} {gb gl : Nat} {h l m : Int}
theorem Tens.on (H : Tens w gb gl h l m W) (hb : Below W.heap.size W W') : Tens w gb gl h l m W' :=
  ⟨(hb.block _ (blk_lt H.b)).trans H.b, (hb.block _ (blk_lt H.n)).trans H.n, H.below.trans (hb.mono H.below.size), H.lb, H.ll⟩
theorem Tens.set (H : Tens w gb gl h l m W) (n : Int) : Tens w gb gl h l n (lims n W gl) :=
  ⟨(set5_far (by have := H.ll; omega) _ _ _ _ _).trans H.b, set5_same H.n _ _ _ _ _, set5_below H.below (by have := H.lb; have := H.ll; omega) _ _ _ _ _, H.lb, H.ll⟩
theorem Tens.start {w1 : World} (hB : Below (w.alloc (Obj.cells #[.int .i64 h, .int .u64 l] 25)).heap.size (w.alloc (Obj.cells #[.int .i64 h, .int .u64 l] 25)) w1) :
    Tens w w.heap.size w1.heap.size h l m (w1.alloc (Obj.cells #[.int .u32 (lim0 m), .int .u32 (lim1 m), .int .u32 (lim2 m), .int .u32 (lim3 m), .int .u32 (lim4 m)] 50)) := by
  have hs := hB.size
  rw [World.size_alloc] at hs
  have e0 := heap_alloc_new w (Obj.cells #[.int .i64 h, .int .u64 l] 25)
  have b1 := (hB.block w.heap.size (by rw [World.size_alloc]; omega)).trans e0
  have B0 : Below w.heap.size w (w.alloc (Obj.cells #[.int .i64 h, .int .u64 l] 25)) := by go_grown
  have B1 : Below w.heap.size w w1 := B0.trans (hB.mono (by rw [World.size_alloc]; omega))
  exact ⟨blk_alloc b1 _, heap_alloc_new w1 _, B1.alloc (by omega) _, Nat.le_refl _, by omega⟩
end

theorem Tens.down {w W : World} {gb gl : Nat} {h l m : Int} (H : Tens w gb gl h l m W) (n : Int) {x0 x1 x2 x3 x4 : Int} (e : x0 = lim0 n ∧ x1 = lim1 n ∧ x2 = lim2 n ∧ x3 = lim3 n ∧ x4 = lim4 n) :
    Tens w gb gl h l n (((((W.setCell ⟨gl, 4, none⟩ (.int .u32 x4)).setCell ⟨gl, 3, none⟩ (.int .u32 x3)).setCell ⟨gl, 2, none⟩ (.int .u32 x2)).setCell ⟨gl, 1, none⟩ (.int .u32 x1)).setCell ⟨gl, 0, none⟩ (.int .u32 x0)) := by
  obtain ⟨rfl, rfl, rfl, rfl, rfl⟩ := e
  have hk : gb ≠ gl := by have := H.ll; omega
  have hg : w.heap.size ≤ gl := by have := H.lb; have := H.ll; omega
  refine ⟨?_, ?_, ((((H.below.setCell hg _).setCell hg _).setCell hg _).setCell hg _).setCell hg _, H.lb, H.ll⟩
  · exact ((Below.heap_setCell _ _ _ gb hk).trans ((Below.heap_setCell _ _ _ gb hk).trans ((Below.heap_setCell _ _ _ gb hk).trans ((Below.heap_setCell _ _ _ gb hk).trans (Below.heap_setCell _ _ _ gb hk))))).trans H.b
  · simp [World.setCell, Array.getElem?_modify, H.n]
theorem long_div {m : Nat} {l0 l1 l2 l3 l4 x0 x1 x2 x3 x4 r0 r1 r2 r3 r4 : Int} (hl : lim0 m = l0 ∧ lim1 m = l1 ∧ lim2 m = l2 ∧ lim3 m = l3 ∧ lim4 m = l4)
    (H4 : l4 = x4 * 10 + r4) (H3 : r4 * 4294967296 + l3 = x3 * 10 + r3) (H2 : r3 * 4294967296 + l2 = x2 * 10 + r2) (H1 : r2 * 4294967296 + l1 = x1 * 10 + r1) (H0 : r1 * 4294967296 + l0 = x0 * 10 + r0)
    (hm : m < 340282366920938463463374607431768211456) (h0 : Half x0) (h1 : Half x1) (h2 : Half x2) (h34 : Half x3 ∧ Half x4) (hr : 0 ≤ r0 ∧ r0 ≤ 9) :
    (x0 = lim0 (m / 10 : Nat) ∧ x1 = lim1 (m / 10 : Nat) ∧ x2 = lim2 (m / 10 : Nat) ∧ x3 = lim3 (m / 10 : Nat) ∧ x4 = lim4 (m / 10 : Nat)) ∧ r0 = (m % 10 : Nat) := by
  obtain ⟨e0, e1, e2, e3, e4⟩ := hl
  obtain ⟨h3, h4⟩ := h34
  have hs : (m : Int) = l0 + l1 * 4294967296 + l2 * 18446744073709551616 + l3 * 79228162514264337593543950336 + l4 * 340282366920938463463374607431768211456 := by
    rw [← e0, ← e1, ← e2, ← e3, ← e4]
    unfold lim0 lim1 lim2 lim3 lim4
    omega
  have hx : (m : Int) = 10 * (x0 + x1 * 4294967296 + x2 * 18446744073709551616 + x3 * 79228162514264337593543950336 + x4 * 340282366920938463463374607431768211456) + r0 := by omega
  have hq : ((m / 10 : Nat) : Int) = x0 + x1 * 4294967296 + x2 * 18446744073709551616 + x3 * 79228162514264337593543950336 + x4 * 340282366920938463463374607431768211456 := by omega
  unfold Half at h0 h1 h2 h3 h4
  clear hs e0 e1 e2 e3 e4 H4 H3 H2 H1 H0
  refine ⟨⟨?_, ?_, ?_, ?_, ?_⟩, by omega⟩
  · rw [hq]; unfold lim0; omega
  · rw [hq]; unfold lim1; omega
  · rw [hq]; unfold lim2; omega
  · rw [hq]; unfold lim3; omega
  · rw [hq]; unfold lim4; omega

/-- What has been written so far: the digits that are no longer in the number. -/
def Tail (N m : Nat) (out : List UInt8) : Prop := (out = [] ∧ m = N) ∨ (out ≠ [] ∧ Lib.decDigits N = (if m = 0 then [] else Lib.decDigits m) ++ out)
theorem Tail.start (N : Nat) : Tail N N [] := Or.inl ⟨rfl, rfl⟩
theorem Tail.next {N m : Nat} {out : List UInt8} (h : Tail N m out) (hm : m ≠ 0 ∨ out = []) : Tail N (m / 10) (UInt8.ofNat (48 + m % 10) :: out) := by
  refine Or.inr ⟨by simp, ?_⟩
  have step : Lib.decDigits m = (if m / 10 = 0 then [] else Lib.decDigits (m / 10)) ++ [UInt8.ofNat (48 + m % 10)] := by
    by_cases h10 : m < 10
    · rw [if_pos (by omega), Lib.decDigits_one h10, Nat.mod_eq_of_lt h10]; rfl
    · rw [if_neg (by omega), decDigits_big h10]
  rcases h with ⟨rfl, rfl⟩ | ⟨ho, he⟩
  · rw [step]
  · have hm0 : m ≠ 0 := by rcases hm with h | h; exact h; exact absurd h ho
    rw [he, if_neg hm0, step, List.append_assoc]; rfl
theorem Tail.done {N : Nat} {out : List UInt8} (h : Tail N 0 out) (ho : out ≠ []) : Lib.decDigits N = out := by
  rcases h with ⟨h1, h2⟩ | ⟨h1, h2⟩
  · exact absurd h1 ho
  · rw [h2, if_pos rfl]; rfl

theorem nDigits_pow : ∀ (k r : Nat), r < 10 ^ (k + 1) → Lib.nDigits r ≤ k + 1
  | 0, r, h => by rw [Lib.nDigits_small (by simpa using h)]; exact Nat.le_refl _
  | k + 1, r, h => by
    by_cases h10 : r < 10
    · rw [Lib.nDigits_small h10]; omega
    · rw [Lib.nDigits_big h10]
      have := nDigits_pow k (r / 10) (by rw [Nat.pow_succ] at h; omega)
      omega
theorem Tail.len {N m : Nat} {out : List UInt8} (h : Tail N m out) (hN : N < 340282366920938463463374607431768211456) : out.length ≤ 39 := by
  rcases h with ⟨rfl, _⟩ | ⟨_, he⟩
  · simp
  · have h1 := congrArg List.length he
    rw [List.length_append, Lib.decDigits_length] at h1
    have h2 := nDigits_pow 38 N (by omega)
    omega
theorem Tens.alloc {w W : World} {gb gl : Nat} {h l m : Int} (H : Tens w gb gl h l m W) (o : Obj) : Tens w gb gl h l m (W.alloc o) :=
  ⟨blk_alloc H.b _, blk_alloc H.n _, H.below.alloc H.below.size _, H.lb, H.ll⟩
theorem byte_text (W : World) {d : Nat} (hd : d < 10) : (convert 65 9 (.slice (some ⟨W.heap.size, 0, none⟩) 1 1)).run Tryd.prog (W.alloc (Obj.cells #[.int .u8 (48 + (d : Nat))] 5)) = .ok (.string ⟨#[UInt8.ofNat (48 + d)]⟩) (W.alloc (Obj.cells #[.int .u8 (48 + (d : Nat))] 5)) := by
  refine run_convert_bytes_back (P := Tryd.prog) _ 65 9 5 ⟨W.heap.size, 0, none⟩ 1 [UInt8.ofNat (48 + d)] Tryd.underlying65 Tryd.underlying5 Tryd.underlying9 (fun j hj => ?_)
  obtain rfl : j = 0 := by simpa using hj
  rw [Lib.add_plain, cell_of_row _ _ _ _ _ _ (heap_alloc_new W (Obj.cells #[.int .u8 (48 + (d : Nat))] 5))]
  have e : (UInt8.ofNat (48 + d)).toNat = 48 + d := by
    rw [UInt8.toNat_ofNat']
    exact Nat.mod_eq_of_lt (by omega)
  simp only [List.getElem_cons_zero, e]
  simp
theorem lims_nought {m : Int} (h0 : 0 < m) (h1 : m < 340282366920938463463374607431768211456) : (lim0 m == 0 && (lim1 m == 0 && (lim2 m == 0 && (lim3 m == 0 && lim4 m == 0)))) = false := by
  rw [Bool.eq_false_iff]
  intro h
  simp only [Bool.and_eq_true, beq_iff_eq] at h
  obtain ⟨e0, e1, e2, e3, -⟩ := h
  unfold lim0 at e0
  unfold lim1 at e1
  unfold lim2 at e2
  unfold lim3 at e3
  omega
theorem long_next (r l : Int) (hr0 : 0 ≤ r) (hr1 : r ≤ 9) (hl0 : 0 ≤ l) (hl1 : l ≤ 4294967295) : ∃ n q r' : Int, bits BinOp.or IntKind.u64 (r * 4294967296) l = n ∧ n.tdiv 10 = q ∧ n.tmod 10 = r' ∧ IntKind.u64.wrap q = q ∧ q % 4294967296 = q ∧
    0 ≤ q ∧ q ≤ 4294967295 ∧ 0 ≤ r' ∧ r' ≤ 9 ∧ Hid (r * 4294967296 + l = q * 10 + r') := by
  refine ⟨r * 4294967296 + l, (r * 4294967296 + l) / 10, (r * 4294967296 + l) % 10, or_add r l hr0 (by omega) hl0 hl1, Int.tdiv_eq_ediv_of_nonneg (by omega), Int.tmod_eq_emod_of_nonneg (by omega), ?_, by omega, by omega, by omega, by omega, by omega, ?_⟩
  · rw [IntKind.wrap_u64]; omega
  · unfold Hid; omega
theorem long_first (l : Int) (hl0 : 0 ≤ l) (hl1 : l ≤ 4294967295) : ∃ n q r' : Int, bits BinOp.or IntKind.u64 0 l = n ∧ n.tdiv 10 = q ∧ n.tmod 10 = r' ∧ IntKind.u64.wrap q = q ∧ q % 4294967296 = q ∧
    0 ≤ q ∧ q ≤ 4294967295 ∧ 0 ≤ r' ∧ r' ≤ 9 ∧ Hid (l = q * 10 + r') := by
  have h := long_next 0 l (by omega) (by omega) hl0 hl1
  simpa only [Int.zero_mul, Int.zero_add] using h
set_option maxRecDepth 100000 in
set_option maxHeartbeats 2000000 in
theorem ref_text (h l : Int) (wf : Wf h l) (w : World) :
    Calls Tryd.prog 26 #[.agg #[.int .i64 h, .int .u64 l]] w fun e w' => e = .returned (.string ⟨(digs h l).toArray⟩) ∧ Below w.heap.size w w' := by
  have DG := Lib.hid (digs_of wf)
  have L1 := Lib.hid (fun W => limbs_any h l wf W)
  have N1 := Lib.hid (fun W => minus_lim (val h l) W)
  have HN := Lib.hid (wf_val wf)
  have HV := Lib.hid (ng_val wf)
  clear wf
  go_enter Tryd.func26, Tryd.ntmps26
  go_wp2_with fail
  go_at_call 28
  refine (L1.out _).mono ?_
  rintro e w1 ⟨rfl, hB1⟩
  go_upto_region 2 with (fail)
  have HT : Tens w w.heap.size w1.heap.size h l (val h l) (w1.alloc (Obj.cells #[.int .u32 (lim0 (val h l)), .int .u32 (lim1 (val h l)), .int .u32 (lim2 (val h l)), .int .u32 (lim3 (val h l)), .int .u32 (lim4 (val h l))] 50)) := Tens.start hB1
  generalize (World.alloc w1 _) = W at HT ⊢
  generalize w1.heap.size = gl at HT ⊢
  generalize w.heap.size = gb at HT ⊢
  clear L1 hB1
  obtain ⟨⟨b0, b1, -, -⟩, -⟩ := pair_facts HT.b
  go_upto_if 12 with (fail)
  go_cut [] (fun wx => Tens w gb gl h l (val h l).natAbs wx)
  case first =>
    by_cases hn : h < 0
    · have e5 : ((val h l).natAbs : Int) = -val h l := by
        have := HV.out; unfold ng at this; simp only [hn, decide_true, true_eq_decide_iff] at this; omega
      obtain ⟨f0, f1, f2, f3, f4, z0, z1, z2, z3, z4⟩ := five_facts HT.n
      have E5 := Lib.hid e5
      clear e5
      go_wp2_with fail
      go_at_call 30
      refine (N1.out _).mono ?_
      rintro e w2 ⟨rfl, hB⟩
      have HA := HT.on hB
      clear f0 f1 f2 f3 f4 z0 z1 z2 z3 z4
      obtain ⟨f0, f1, f2, f3, f4, z0, z1, z2, z3, z4⟩ := five_facts HA.n
      go_wp2_with fail
      go_meet
      rw [E5.out]
      exact HA.set _
    · have e5 : ((val h l).natAbs : Int) = val h l := by
        have := HV.out; unfold ng at this; simp only [hn, decide_false, false_eq_decide_iff] at this; omega
      have E5 := Lib.hid e5
      clear e5
      go_wp2_with fail
      go_meet
      rw [E5.out]
      exact HT
  case rest =>
    clear HT b0 b1 N1
    obtain ⟨N, hN⟩ : ∃ N : Nat, (val h l).natAbs = N := ⟨_, rfl⟩
    rw [hN] at hcut
    have HNN := Lib.hid hN
    clear hN
    go_wp2_with fail
    go_loopg [4] (N + 1) (fun k s wr => ∃ (m : Nat) (out : List UInt8), k = m + (if out = [] then 1 else 0) ∧ s = .string ⟨out.toArray⟩ ∧ Tens w gb gl h l m wr ∧ m ≤ N ∧ Tail N m out)
    case atStart => exact ⟨N, [], by simp, rfl, hcut, Nat.le_refl _, Tail.start N⟩
    case round =>
      obtain ⟨m, out, hk, rfl, HM, hle, HO⟩ := hrel
      have hk' := Lib.hid hk
      have hO := Lib.hid HO
      clear hk hcut HO
      obtain ⟨f0, f1, f2, f3, f4, z0, z1, z2, z3, z4⟩ := five_facts HM.n
      have EQ := Lib.hid (fun W => eq_limbs (lim0 m) (lim1 m) (lim2 m) (lim3 m) (lim4 m) W)
      go_upto_region 5 with (fail)
      go_cut [21] (fun s21 wx => s21 = .bool (decide (m ≠ 0 ∨ out = [])) ∧ wx = wr)
      case first =>
        by_cases hm : m = 0
        · subst hm
          obtain ⟨l0, l1, l2, l3, l4⟩ := lim_zero
          rw [Int.natCast_zero] at f0 f1 f2 f3 f4
          rw [l0] at f0
          rw [l1] at f1
          rw [l2] at f2
          rw [l3] at f3
          rw [l4] at f4
          have eq : ∀ W, (Op.equalIn 10000 50 (.agg #[.int .u32 0, .int .u32 0, .int .u32 0, .int .u32 0, .int .u32 0]) (.agg #[.int .u32 0, .int .u32 0, .int .u32 0, .int .u32 0, .int .u32 0])).run Tryd.prog W = .ok true W := fun W => eq_limbs 0 0 0 0 0 W
          clear EQ l0 l1 l2 l3 l4
          cases out with
          | nil =>
            go_wp2_with fail
            go_meet
            exact ⟨rfl, rfl⟩
          | cons c cs =>
            go_wp2_with fail
            go_meet
            exact ⟨by simp, rfl⟩
        · have eq : ∀ W, (Op.equalIn 10000 50 (.agg #[.int .u32 (lim0 m), .int .u32 (lim1 m), .int .u32 (lim2 m), .int .u32 (lim3 m), .int .u32 (lim4 m)]) (.agg #[.int .u32 0, .int .u32 0, .int .u32 0, .int .u32 0, .int .u32 0])).run Tryd.prog W = .ok false W := fun W => by
            rw [EQ.out W, lims_nought (by omega) (by have := HN.out; unfold InR at this; have := HNN.out; omega)]
          clear EQ
          go_wp2_with fail
          go_meet
          exact ⟨by simp [hm], rfl⟩
      case rest =>
        obtain ⟨rfl, rfl⟩ := hcut
        clear EQ
        by_cases hgo : m ≠ 0 ∨ out = []
        · have hgd : decide (m ≠ 0 ∨ out = []) = true := by simpa using hgo
          have HG := Lib.hid hgo
          clear hgo
          rw [hgd]
          clear hgd
          obtain ⟨⟨p0, q0⟩, ⟨p1, q1⟩, ⟨p2, q2⟩, ⟨p3, q3⟩, ⟨p4, q4⟩⟩ := lim_half m
          generalize h0 : lim0 m = l0 at *
          generalize h1 : lim1 m = l1 at *
          generalize h2 : lim2 m = l2 at *
          generalize h3 : lim3 m = l3 at *
          generalize h4 : lim4 m = l4 at *
          have HL := Lib.hid (⟨h0, h1, h2, h3, h4⟩ : lim0 m = l0 ∧ lim1 m = l1 ∧ lim2 m = l2 ∧ lim3 m = l3 ∧ lim4 m = l4)
          clear h0 h1 h2 h3 h4
          go_wp2_with fail
          refine wp_loop_rounds 6 ?_
          obtain ⟨n4, x4, r4, a4, b4, c4, d4, e4, g4, i4, j4, k4, H4⟩ := long_first l4 p4 q4
          rw [rounds_succ]
          go_wp2
          clear a4 b4 c4 d4 e4
          obtain ⟨n3, x3, r3, a3, b3, c3, d3, e3, g3, i3, j3, k3, H3⟩ := long_next r4 l3 j4 k4 p3 q3
          rw [rounds_succ]
          go_wp2
          clear a3 b3 c3 d3 e3
          obtain ⟨n2, x2, r2, a2, b2, c2, d2, e2, g2, i2, j2, k2, H2⟩ := long_next r3 l2 j3 k3 p2 q2
          rw [rounds_succ]
          go_wp2
          clear a2 b2 c2 d2 e2
          obtain ⟨n1, x1, r1, a1, b1, c1, d1, e1, g1, i1, j1, k1, H1⟩ := long_next r2 l1 j2 k2 p1 q1
          rw [rounds_succ]
          go_wp2
          clear a1 b1 c1 d1 e1
          obtain ⟨n0, x0, r0, a0, b0, c0, d0, e0, g0, i0, j0, k0, H0⟩ := long_next r1 l0 j1 k1 p0 q0
          rw [rounds_succ]
          go_wp2
          clear a0 b0 c0 d0 e0
          rw [rounds_succ]
          obtain ⟨ED, ER⟩ := long_div (m := m) HL.out H4.out H3.out H2.out H1.out H0.out (by have := HN.out; unfold InR at this; have := HNN.out; omega) ⟨g0, i0⟩ ⟨g1, i1⟩ ⟨g2, i2⟩ ⟨⟨g3, i3⟩, ⟨g4, i4⟩⟩ ⟨j0, k0⟩
          have HM5 := HM.down _ ED
          have HER := Lib.hid ER
          clear ED ER
          generalize World.setCell (World.setCell (World.setCell (World.setCell (World.setCell wc _ _) _ _) _ _) _ _) _ _ = W5 at HM5 ⊢
          clear HM H0 H1 H2 H3 H4
          have hcv0 : ∀ n, n = W5.heap.size → (convert 65 9 (.slice (some ⟨n, 0, none⟩) 1 1)).run Tryd.prog (W5.alloc (Obj.cells #[.int .u8 (48 + r0)] 5)) = .ok (.string ⟨#[UInt8.ofNat (48 + m % 10)]⟩) (W5.alloc (Obj.cells #[.int .u8 (48 + r0)] 5)) := by
            rintro n rfl
            rw [HER.out]
            exact byte_text W5 (by omega)
          have hcv := hcv0 _ rfl
          clear hcv0
          obtain ⟨c, hc⟩ : ∃ c, UInt8.ofNat (48 + m % 10) = c := ⟨_, rfl⟩
          rw [hc] at hcv
          have HC := Lib.hid hc
          clear hc
          have hadd : ∀ W, (Op.stringOp .add ⟨#[c]⟩ ⟨out.toArray⟩).run Tryd.prog W = .ok (.string ⟨(c :: out).toArray⟩) W := fun W =>
            run_string_add_lists W [c] out (by simp) (by have := Tail.len hO.out (by have := HN.out; unfold InR at this; have := HNN.out; omega); omega)
          go_wp2_with fail
          go_roundg (m / 10)
          case measure =>
            rw [hk'.out]
            rcases HG.out with hh | hh
            · split <;> omega
            · rw [if_pos hh]; omega
          case rel =>
            exact ⟨m / 10, c :: out, by simp, rfl, Tens.alloc HM5 _, by omega, HC.out ▸ hO.out.next HG.out⟩
        · have hgd : decide (m ≠ 0 ∨ out = []) = false := by simpa using hgo
          have ho : out ≠ [] := fun e => hgo (Or.inr e)
          have hm : m = 0 := by
            by_cases hm : m = 0
            · exact hm
            · exact absurd (Or.inl hm) hgo
          have hT := hO.out
          rw [hm] at hT
          have HD := Lib.hid (hT.done ho)
          have hlen := hT.len (by have := HN.out; unfold InR at this; have := HNN.out; omega)
          have hadd : ∀ W, (Op.stringOp .add ⟨#[45]⟩ ⟨out.toArray⟩).run Tryd.prog W = .ok (.string ⟨(45 :: out).toArray⟩) W := fun W =>
            run_string_add_lists W [45] out (by simp) (by omega)
          have HB := HM.below
          obtain ⟨⟨b0, b1, -, -⟩, -⟩ := pair_facts HM.b
          rw [hgd]
          clear hT hgd hgo ho hm f0 f1 f2 f3 f4 z0 z1 z2 z3 z4 hlen
          by_cases hn : h < 0
          · have DGG : Hid (digs h l = 45 :: out) := by
              unfold Hid
              rw [DG.out, HNN.out, HD.out, if_pos (by unfold ng; simpa using hn)]
            go_wp2_with fail
            go_wp2
            go_ret
            rw [DGG.out]
            exact ⟨rfl, HB⟩
          · have DGG : Hid (digs h l = out) := by
              unfold Hid
              rw [DG.out, HNN.out, HD.out, if_neg (by unfold ng; simpa using hn)]
            go_wp2_with fail
            go_wp2
            go_ret
            rw [DGG.out]
            exact ⟨rfl, HB⟩
end Go.Proofs.YtchhhaiokpecjaaDoor
