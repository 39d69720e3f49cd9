/- The contracts of the document's own answers on five parts of 32 bits: limbs, plus, minus, whole. -/
import Derived.Test.YtjlnjjmomohpaaaGreatWords
import Derived.Test.YtjlnjjmomohpaaaGreatPlane
import Derived.BigQuiet
import Derived.BigRegion
import Derived.Test.YtjlnjjmomohpaaaGreatHold
import Derived.Deep.DeepCutAuto
namespace Go.Proofs.YtjlnjjmomohpaaaGreat
open Go.RowKit

set_option maxHeartbeats 400000 in
theorem limbs_any (h l : Int) (wf : Wf h l) (w : World) :
  Calls Tryz.prog 79 #[.agg #[.int .i64 h, .int .u64 l]] w fun e w' => e = .returned (.agg #[.int .u32 (lim0 (val h l)), .int .u32 (lim1 (val h l)), .int .u32 (lim2 (val h l)), .int .u32 (lim3 (val h l)), .int .u32 (lim4 (val h l))]) ∧ Below w.heap.size w w' := by
 obtain ⟨e0, e1, e2, e3, e4⟩ := val_lim wf
 have E0 := Lib.hid e0
 have E1 := Lib.hid e1
 have E2 := Lib.hid e2
 have E3 := Lib.hid e3
 have E4 := Lib.hid e4
 clear e0 e1 e2 e3 e4 wf
 by_cases hn : h < 0
 ·rw [if_pos hn] at E4
  go_enter Tryz.func79, Tryz.ntmps79
  go_wp2
  refine bodyPost_ret (v := .agg #[.int .u32 (lim0 (val h l)), .int .u32 (lim1 (val h l)), .int .u32 (lim2 (val h l)), .int .u32 (lim3 (val h l)), .int .u32 (lim4 (val h l))]) ?_ rfl ⟨rfl, by go_grown⟩
  rw [E0.out, E1.out, E2.out, E3.out, E4.out]
  simp [results, Tryz.results79, go_sem, wrap_uw]
 ·rw [if_neg hn] at E4
  go_enter Tryz.func79, Tryz.ntmps79
  go_wp2
  refine bodyPost_ret (v := .agg #[.int .u32 (lim0 (val h l)), .int .u32 (lim1 (val h l)), .int .u32 (lim2 (val h l)), .int .u32 (lim3 (val h l)), .int .u32 (lim4 (val h l))]) ?_ rfl ⟨rfl, by go_grown⟩
  rw [E0.out, E1.out, E2.out, E3.out, E4.out]
  simp [results, Tryz.results79, go_sem, wrap_uw]

theorem bcell' {W w1 : World} (hb : Below W.heap.size W w1) : (∀ b o, b < W.heap.size → w1.cell? ⟨b, o, none⟩ = W.cell? ⟨b, o, none⟩) ∧ (∀ b o, b < W.heap.size → w1.frozen? ⟨b, o, none⟩ = W.frozen? ⟨b, o, none⟩) :=
 ⟨fun b o h => hb.cell (p := ⟨b, o, none⟩) h, fun b o h => hb.frozen (p := ⟨b, o, none⟩) h⟩
theorem below_drewN' {B : Nat} {a w : World} (h : Below B a w) (n : Nat) : Below B a (w.drewN n) := ⟨h.os, h.tape, h.output, h.size, h.block⟩
set_option maxHeartbeats 2000000 in
theorem plus_raw (a0 a1 a2 a3 a4 b0 b1 b2 b3 b4 : Int) (p0 : 0 ≤ a0) (q0 : a0 ≤ 4294967295) (p1 : 0 ≤ a1) (q1 : a1 ≤ 4294967295) (p2 : 0 ≤ a2) (q2 : a2 ≤ 4294967295) (p3 : 0 ≤ a3) (q3 : a3 ≤ 4294967295) (p4 : 0 ≤ a4) (q4 : a4 ≤ 4294967295)
  (r0 : 0 ≤ b0) (s0 : b0 ≤ 4294967295) (r1 : 0 ≤ b1) (s1 : b1 ≤ 4294967295) (r2 : 0 ≤ b2) (s2 : b2 ≤ 4294967295) (r3 : 0 ≤ b3) (s3 : b3 ≤ 4294967295) (r4 : 0 ≤ b4) (s4 : b4 ≤ 4294967295) (w : World) :
  Calls Tryz.prog 78 #[.agg #[.int .u32 a0, .int .u32 a1, .int .u32 a2, .int .u32 a3, .int .u32 a4], .agg #[.int .u32 b0, .int .u32 b1, .int .u32 b2, .int .u32 b3, .int .u32 b4]] w fun e w' => e = .returned (.agg #[.int .u32 (sm a0 b0 0), .int .u32 (sm a1 b1 (cr a0 b0 0)), .int .u32 (sm a2 b2 (cr a1 b1 (cr a0 b0 0))), .int .u32 (sm a3 b3 (cr a2 b2 (cr a1 b1 (cr a0 b0 0)))), .int .u32 (sm a4 b4 (cr a3 b3 (cr a2 b2 (cr a1 b1 (cr a0 b0 0)))))]) ∧ Below w.heap.size w w' := by
 go_enter Tryz.func78, Tryz.ntmps78
 go_wp2
 refine wp_loop_rounds 6 ?_
 rw [rounds_succ]
 go_wp2
 go_quiet (fail)
 go_wp2
 have hk : 0 ≤ (a0 + b0) / 4294967296 ∧ (a0 + b0) / 4294967296 ≤ 1 := by omega
 obtain ⟨k1, hk1⟩ : ∃ k, (a0 + b0) / 4294967296 = k := ⟨_, rfl⟩
 obtain ⟨o0, ho0⟩ : ∃ k, (a0 + b0) % 4294967296 = k := ⟨_, rfl⟩
 rw [hk1] at hk
 have u0 := hk.1
 have v0 := hk.2
 rw [ho0]
 try rw [hk1]
 have K1 := Lib.hid hk1
 have O0 := Lib.hid ho0
 clear hk hk1 ho0
 rw [rounds_succ]
 go_wp2
 go_quiet (fail)
 go_wp2
 have hk : 0 ≤ (a1 + b1 + k1) / 4294967296 ∧ (a1 + b1 + k1) / 4294967296 ≤ 1 := by omega
 obtain ⟨k2, hk2⟩ : ∃ k, (a1 + b1 + k1) / 4294967296 = k := ⟨_, rfl⟩
 obtain ⟨o1, ho1⟩ : ∃ k, (a1 + b1 + k1) % 4294967296 = k := ⟨_, rfl⟩
 rw [hk2] at hk
 have u1 := hk.1
 have v1 := hk.2
 rw [ho1]
 try rw [hk2]
 have K2 := Lib.hid hk2
 have O1 := Lib.hid ho1
 clear hk hk2 ho1
 rw [rounds_succ]
 go_wp2
 go_quiet (fail)
 go_wp2
 have hk : 0 ≤ (a2 + b2 + k2) / 4294967296 ∧ (a2 + b2 + k2) / 4294967296 ≤ 1 := by omega
 obtain ⟨k3, hk3⟩ : ∃ k, (a2 + b2 + k2) / 4294967296 = k := ⟨_, rfl⟩
 obtain ⟨o2, ho2⟩ : ∃ k, (a2 + b2 + k2) % 4294967296 = k := ⟨_, rfl⟩
 rw [hk3] at hk
 have u2 := hk.1
 have v2 := hk.2
 rw [ho2]
 try rw [hk3]
 have K3 := Lib.hid hk3
 have O2 := Lib.hid ho2
 clear hk hk3 ho2
 rw [rounds_succ]
 go_wp2
 go_quiet (fail)
 go_wp2
 have hk : 0 ≤ (a3 + b3 + k3) / 4294967296 ∧ (a3 + b3 + k3) / 4294967296 ≤ 1 := by omega
 obtain ⟨k4, hk4⟩ : ∃ k, (a3 + b3 + k3) / 4294967296 = k := ⟨_, rfl⟩
 obtain ⟨o3, ho3⟩ : ∃ k, (a3 + b3 + k3) % 4294967296 = k := ⟨_, rfl⟩
 rw [hk4] at hk
 have u3 := hk.1
 have v3 := hk.2
 rw [ho3]
 try rw [hk4]
 have K4 := Lib.hid hk4
 have O3 := Lib.hid ho3
 clear hk hk4 ho3
 rw [rounds_succ]
 go_wp2
 go_quiet (fail)
 go_wp2
 have hk : 0 ≤ (a4 + b4 + k4) / 4294967296 ∧ (a4 + b4 + k4) / 4294967296 ≤ 1 := by omega
 obtain ⟨k5, hk5⟩ : ∃ k, (a4 + b4 + k4) / 4294967296 = k := ⟨_, rfl⟩
 obtain ⟨o4, ho4⟩ : ∃ k, (a4 + b4 + k4) % 4294967296 = k := ⟨_, rfl⟩
 rw [hk5] at hk
 have u4 := hk.1
 have v4 := hk.2
 rw [ho4]
 try rw [hk5]
 have K5 := Lib.hid hk5
 have O4 := Lib.hid ho4
 clear hk hk5 ho4
 rw [rounds_succ]
 go_wp2
 have e1 : cr a0 b0 0 = k1 := by unfold cr; rw [Int.add_zero]; exact K1.out
 have e2 : cr a1 b1 k1 = k2 := K2.out
 have e3 : cr a2 b2 k2 = k3 := K3.out
 have e4 : cr a3 b3 k3 = k4 := K4.out
 have d0 : sm a0 b0 0 = o0 := by unfold sm; rw [Int.add_zero]; exact O0.out
 have d1 : sm a1 b1 k1 = o1 := O1.out
 have d2 : sm a2 b2 k2 = o2 := O2.out
 have d3 : sm a3 b3 k3 = o3 := O3.out
 have d4 : sm a4 b4 k4 = o4 := O4.out
 rw [e1, e2, e3, e4, d0, d1, d2, d3, d4]
 clear e1 e2 e3 e4 d0 d1 d2 d3 d4
 refine bodyPost_ret (v := .agg #[.int .u32 o0, .int .u32 o1, .int .u32 o2, .int .u32 o3, .int .u32 o4]) ?_ rfl ⟨rfl, ?_⟩
 ·simp [results, Tryz.results78, go_sem, World.cell?_setCell_other, World.cell?_setCell_same']
 ·repeat' (first | (with_reducible exact Below.refl _ _) | (with_reducible refine below_drewN' ?_ _) | (with_reducible refine Below.alloc ?_ ?_ _) | (with_reducible refine Below.setCell ?_ ?_ _) | (with_reducible exact Nat.le_refl _) | (simp; done) | (simp; omega))

theorem plus_lim (a b : Int) (w : World) :
  Calls Tryz.prog 78 #[.agg #[.int .u32 (lim0 a), .int .u32 (lim1 a), .int .u32 (lim2 a), .int .u32 (lim3 a), .int .u32 (lim4 a)], .agg #[.int .u32 (lim0 b), .int .u32 (lim1 b), .int .u32 (lim2 b), .int .u32 (lim3 b), .int .u32 (lim4 b)]] w fun e w' => e = .returned (.agg #[.int .u32 (lim0 (a + b)), .int .u32 (lim1 (a + b)), .int .u32 (lim2 (a + b)), .int .u32 (lim3 (a + b)), .int .u32 (lim4 (a + b))]) ∧ Below w.heap.size w w' := by
 obtain ⟨p0, p1, p2, p3, p4⟩ := lim_half a
 obtain ⟨r0, r1, r2, r3, r4⟩ := lim_half b
 have h := plus_raw (lim0 a) (lim1 a) (lim2 a) (lim3 a) (lim4 a) (lim0 b) (lim1 b) (lim2 b) (lim3 b) (lim4 b) p0.1 p0.2 p1.1 p1.2 p2.1 p2.2 p3.1 p3.2 p4.1 p4.2 r0.1 r0.2 r1.1 r1.2 r2.1 r2.2 r3.1 r3.2 r4.1 r4.2 w
 have t1 : cr (lim0 a) (lim0 b) 0 = c1 a b := rfl
 have t2 : cr (lim1 a) (lim1 b) (c1 a b) = c2 a b := rfl
 have t3 : cr (lim2 a) (lim2 b) (c2 a b) = c3 a b := rfl
 have t4 : cr (lim3 a) (lim3 b) (c3 a b) = c4 a b := rfl
 rw [t1, t2, t3, t4, sm0, sm1, sm2, sm3, sm4] at h
 exact h

theorem xor_max (a : Int) (h0 : 0 ≤ a) (h1 : a ≤ 4294967295) : bits BinOp.xor IntKind.u32 IntKind.u32.max a = 4294967295 - a := by
 have hm : IntKind.u32.max = 4294967295 := by decide +kernel
 rw [hm, u32_xor 4294967295 a (by omega) (by omega) h0 (by omega)]
 obtain ⟨n, rfl⟩ := Int.eq_ofNat_of_zero_le h0
 have hn : n < 2 ^ 32 := by omega
 have e : (4294967295 : Int).toNat ^^^ ((n : Int)).toNat = 4294967295 - n := by
  have h := congrArg BitVec.toNat (BitVec.allOnes_xor (x := BitVec.ofNat 32 n))
  rw [BitVec.toNat_xor, BitVec.toNat_not, BitVec.toNat_allOnes, BitVec.toNat_ofNat, Nat.mod_eq_of_lt hn] at h
  simpa using h
 rw [e]
 omega
theorem or_add (a b : Int) (ha : 0 ≤ a) (ha1 : a ≤ 4294967295) (hb : 0 ≤ b) (hb1 : b ≤ 4294967295) : bits BinOp.or IntKind.u64 (a * 4294967296) b = a * 4294967296 + b := by
 obtain ⟨m, rfl⟩ := Int.eq_ofNat_of_zero_le ha
 obtain ⟨n, rfl⟩ := Int.eq_ofNat_of_zero_le hb
 have h := bits_or_u64_nat (m * 4294967296) n (by omega) (by omega)
 have e : m * 4294967296 ||| n = m * 4294967296 + n := by
  have := Nat.shiftLeft_add_eq_or_of_lt (b := n) (i := 32) (by omega) m
  rw [Nat.shiftLeft_eq] at this
  exact this.symm
 rw [e] at h
 simpa using h
theorem or_words (a b : Int) (ha : 0 ≤ a) (ha1 : a ≤ 4294967295) (hb : 0 ≤ b) (hb1 : b ≤ 4294967295) : bits BinOp.or IntKind.u64 (IntKind.u64.wrap (IntKind.u64.wrap a * 4294967296)) (IntKind.u64.wrap b) = a * 4294967296 + b := by
 rw [show IntKind.u64.wrap a = a by rw [IntKind.wrap_u64]; omega, show IntKind.u64.wrap b = b by rw [IntKind.wrap_u64]; omega, show IntKind.u64.wrap (a * 4294967296) = a * 4294967296 by rw [IntKind.wrap_u64]; omega]
 exact or_add a b ha ha1 hb hb1
theorem wrap_sw' (n : Int) : IntKind.i64.wrap n = sw n := by rw [IntKind.wrap_i64]; unfold sw; omega
theorem lim_one : lim0 1 = 1 ∧ lim1 1 = 0 ∧ lim2 1 = 0 ∧ lim3 1 = 0 ∧ lim4 1 = 0 := by decide +kernel
theorem lim_zero : lim0 0 = 0 ∧ lim1 0 = 0 ∧ lim2 0 = 0 ∧ lim3 0 = 0 ∧ lim4 0 = 0 := by decide +kernel

set_option maxHeartbeats 2000000 in
theorem minus_lim (a : Int) (w : World) :
  Calls Tryz.prog 117 #[.agg #[.int .u32 (lim0 a), .int .u32 (lim1 a), .int .u32 (lim2 a), .int .u32 (lim3 a), .int .u32 (lim4 a)]] w fun e w' => e = .returned (.agg #[.int .u32 (lim0 (-a)), .int .u32 (lim1 (-a)), .int .u32 (lim2 (-a)), .int .u32 (lim3 (-a)), .int .u32 (lim4 (-a))]) ∧ Below w.heap.size w w' := by
 have hp := fun W => plus_lim (-a - 1) 1 W
 rw [show -a - 1 + 1 = -a by omega, ← not0, ← not1, ← not2, ← not3, ← not4, lim_one.1, lim_one.2.1, lim_one.2.2.1, lim_one.2.2.2.1, lim_one.2.2.2.2] at hp
 have HP := Lib.hid hp
 obtain ⟨⟨p0, q0⟩, ⟨p1, q1⟩, ⟨p2, q2⟩, ⟨p3, q3⟩, ⟨p4, q4⟩⟩ := lim_half a
 clear hp
 generalize lim0 a = a0 at *
 generalize lim1 a = a1 at *
 generalize lim2 a = a2 at *
 generalize lim3 a = a3 at *
 generalize lim4 a = a4 at *
 go_enter Tryz.func117, Tryz.ntmps117
 go_wp2
 refine wp_loop_rounds 6 ?_
 rw [rounds_succ]
 go_wp2
 rw [rounds_succ]
 go_wp2
 rw [rounds_succ]
 go_wp2
 rw [rounds_succ]
 go_wp2
 rw [rounds_succ]
 go_wp2
 rw [rounds_succ]
 go_wp2_with fail
 rw [xor_max a0 p0 q0, xor_max a1 p1 q1, xor_max a2 p2 q2, xor_max a3 p3 q3, xor_max a4 p4 q4]
 go_at_call 78
 refine (HP.out _).mono ?_
 rintro e w' ⟨rfl, hB⟩
 have hz : w.heap.size + 1 < w'.heap.size := by (have := hB.size; simp only [World.size_alloc] at this; omega)
 have hb : Below w.heap.size w w' := Below.trans (((Below.refl _ _).alloc (Nat.le_refl _) _).alloc (by simp) _) (hB.mono (by simp only [World.size_alloc]; omega))
 obtain ⟨hcl, hfr⟩ := bcell' hB
 go_wp2
 refine bodyPost_ret (v := .agg #[.int .u32 (lim0 (-a)), .int .u32 (lim1 (-a)), .int .u32 (lim2 (-a)), .int .u32 (lim3 (-a)), .int .u32 (lim4 (-a))]) ?_ rfl ⟨rfl, ?_⟩
 ·simp [results, Tryz.results117, go_sem, hcl, World.cell?_setCell_other, World.cell?_setCell_same']
 ·go_grown

set_option maxHeartbeats 2000000 in
theorem whole_lim (a : Int) (w : World) :
  Calls Tryz.prog 77 #[.agg #[.int .u32 (lim0 a), .int .u32 (lim1 a), .int .u32 (lim2 a), .int .u32 (lim3 a), .int .u32 (lim4 a)]] w fun e w' => e = .returned (.tuple #[.agg #[.int .i64 (wHi a), .int .u64 (wLo a)], .bool (wOk a)]) ∧ Below w.heap.size w w' := by
 obtain ⟨⟨p0, q0⟩, ⟨p1, q1⟩, ⟨p2, q2⟩, ⟨p3, q3⟩, ⟨p4, q4⟩⟩ := lim_half a
 have HK : Hid (wOk a = (lim4 a == (if 2147483648 ≤ lim3 a then 4294967295 else 0))) := rfl
 have o1 := or_words (lim3 a) (lim2 a) p3 q3 p2 q2
 have o2 := or_words (lim1 a) (lim0 a) p1 q1 p0 q0
 have O1 := Lib.hid o1
 have O2 := Lib.hid o2
 clear o1 o2
 generalize hH : wHi a = H
 generalize hL : wLo a = L
 unfold wHi at hH
 unfold wLo at hL
 have HH := Lib.hid hH
 have HL := Lib.hid hL
 clear hH hL
 generalize lim0 a = a0 at *
 generalize lim1 a = a1 at *
 generalize lim2 a = a2 at *
 generalize lim3 a = a3 at *
 generalize lim4 a = a4 at *
 by_cases ht : 2147483648 ≤ a3
 ·rw [if_pos ht] at HK
  go_enter Tryz.func77, Tryz.ntmps77
  go_wp2
  go_region_held3 (fun W => W.cell? ⟨w.heap.size, 0, none⟩ = some (.int .u32 a0) ∧ W.cell? ⟨w.heap.size, 1, none⟩ = some (.int .u32 a1) ∧ W.cell? ⟨w.heap.size, 2, none⟩ = some (.int .u32 a2) ∧ W.cell? ⟨w.heap.size, 3, none⟩ = some (.int .u32 a3) ∧ W.cell? ⟨w.heap.size, 4, none⟩ = some (.int .u32 a4)) ((simp [*])) (fail)
  go_wp2
  refine bodyPost_ret (v := .tuple #[.agg #[.int .i64 H, .int .u64 L], .bool (wOk a)]) ?_ rfl ⟨rfl, by go_grown⟩
  rw [O1.out, O2.out, HL.out, wrap_sw', HH.out, HK.out]
  simp [results, Tryz.results77, go_sem]
 ·rw [if_neg ht] at HK
  go_enter Tryz.func77, Tryz.ntmps77
  go_wp2
  go_region_held3 (fun W => W.cell? ⟨w.heap.size, 0, none⟩ = some (.int .u32 a0) ∧ W.cell? ⟨w.heap.size, 1, none⟩ = some (.int .u32 a1) ∧ W.cell? ⟨w.heap.size, 2, none⟩ = some (.int .u32 a2) ∧ W.cell? ⟨w.heap.size, 3, none⟩ = some (.int .u32 a3) ∧ W.cell? ⟨w.heap.size, 4, none⟩ = some (.int .u32 a4)) ((simp [*])) (fail)
  go_wp2
  refine bodyPost_ret (v := .tuple #[.agg #[.int .i64 H, .int .u64 L], .bool (wOk a)]) ?_ rfl ⟨rfl, by go_grown⟩
  rw [O1.out, O2.out, HL.out, wrap_sw', HH.out, HK.out]
  simp [results, Tryz.results77, go_sem]
end Go.Proofs.YtjlnjjmomohpaaaGreat

namespace Go.Proofs.YtjlnjjmomohpaaaGreat
open Go.RowKit

def Own (w : World) (L : List (Nat × Int × Int)) (W : World) : Prop := Has w L W ∧ L.Pairwise (fun a b => b.1 < a.1) ∧ ∀ e ∈ L, w.heap.size ≤ e.1
section
variable {w W W' : World} {L : List (Nat × Int × Int)}
theorem Own.refl (w : World) : Own w [] w := ⟨Has.refl w, List.Pairwise.nil, fun _ h => by cases h⟩
theorem Own.on (h : Own w L W) (hb : Below W.heap.size W W') : Own w L W' := ⟨h.1.on hb, h.2⟩
theorem Own.drew (h : Own w L W) : Own w L W.drew := ⟨h.1.drew, h.2⟩
theorem Own.drewN (h : Own w L W) (n : Nat) : Own w L (W.drewN n) := ⟨h.1.drewN n, h.2⟩
theorem Own.new (h : Own w L W) (a b : Int) : Own w ((W.heap.size, a, b) :: L) (W.alloc (Obj.cells #[.int .i64 a, .int .u64 b] 67)) :=
 ⟨h.1.new a b, List.Pairwise.cons (fun e he => blk_lt (h.1.2 e he)) h.2.1, fun e he => by
  rcases List.mem_cons.1 he with rfl | he
  ·exact h.1.1.size
  ·exact h.2.2 e he⟩
theorem Own.new' (h : Own w L W) (a b : Int) {n : Nat} (hn : n = W.heap.size) : Own w ((n, a, b) :: L) (W.alloc (Obj.cells #[.int .i64 a, .int .u64 b] 67)) := by
 subst hn; exact h.new a b
theorem Own.newDrew (h : Own w L W) (a b : Int) : Own w ((W.heap.size, a, b) :: L) (W.drew.alloc (Obj.cells #[.int .i64 a, .int .u64 b] 67)) := h.drew.new' a b rfl
theorem Own.store {g : Nat} {a b : Int} (h : Own w ((g, a, b) :: L) W) (x y : Int) : Own w ((g, x, y) :: L) ((W.setCell ⟨g, 0, none⟩ (.int .i64 x)).setCell ⟨g, 1, none⟩ (.int .u64 y)) := by
 obtain ⟨⟨hb, hL⟩, hp, hw⟩ := h
 have hg := hw _ (List.mem_cons_self ..)
 refine ⟨⟨(hb.setCell hg _).setCell hg _, fun e he => ?_⟩, List.Pairwise.cons (fun e he => List.rel_of_pairwise_cons hp he) hp.of_cons, fun e he => ?_⟩
 ·rcases List.mem_cons.1 he with rfl | he
  ·exact set_pair (hL _ (List.mem_cons_self ..)) _ _
  ·have hlt : e.1 < g := List.rel_of_pairwise_cons hp he
   exact (set_far (by omega) _ _).trans (hL _ (List.mem_cons_of_mem _ he))
 ·rcases List.mem_cons.1 he with rfl | he
  ·exact hg
  ·exact hw _ (List.mem_cons_of_mem _ he)
theorem Own.two {g g' : Nat} {a b a' b' : Int} (h : Own w L W) (m : (g, a, b) ∈ L) (m' : (g', a', b') ∈ L) : W.cell? ⟨g, 0, none⟩ = some (.int .i64 a) ∧ W.cell? ⟨g, 1, none⟩ = some (.int .u64 b) ∧ W.cell? ⟨g', 0, none⟩ = some (.int .i64 a') ∧ W.cell? ⟨g', 1, none⟩ = some (.int .u64 b') :=
 ⟨(h.1.look m).1, (h.1.look m).2, (h.1.look m').1, (h.1.look m').2⟩
theorem Own.head {g : Nat} {a b : Int} (h : Own w ((g, a, b) :: L) W) : W.cell? ⟨g, 0, none⟩ = some (.int .i64 a) ∧ W.cell? ⟨g, 1, none⟩ = some (.int .u64 b) ∧ W.frozen? ⟨g, 0, none⟩ = false ∧ W.frozen? ⟨g, 1, none⟩ = false :=
 (pair_facts (h.1.2 _ (List.mem_cons_self ..))).1
theorem Own.fz {g : Nat} {a b : Int} (h : Own w L W) (m : (g, a, b) ∈ L) : W.frozen? ⟨g, 0, none⟩ = false ∧ W.frozen? ⟨g, 1, none⟩ = false :=
 ⟨(pair_facts (h.1.2 _ m)).1.2.2.1, (pair_facts (h.1.2 _ m)).1.2.2.2⟩
end

theorem ref_add_words {h l h' l' : Int} (wf : Wf h l) (wf' : Wf h' l') : wOk (val h l + val h' l') = pFit h l h' l' ∧ (pFit h l h' l' = true → wHi (val h l + val h' l') = pHi h l h' l' ∧ wLo (val h l + val h' l') = pLo l l') := by
 have v1 := wf_val wf
 have v2 := wf_val wf'
 have ho : wOk (val h l + val h' l') = decide (InR (val h l + val h' l')) := by
  unfold InR at v1 v2
  exact whole_ok (by omega) (by omega)
 have hf := plus_fit wf wf'
 have e : (val h l + val h' l') = val h l + val h' l' := by omega
 rw [e] at ho ⊢
 rw [ho, hf]
 refine ⟨rfl, fun ht => ?_⟩
 have hr := of_decide_eq_true ht
 exact val_inj (whole_wf _) plus_wf ((whole_val hr).trans (plus_val wf wf' hr).symm)

set_option maxRecDepth 100000 in
set_option maxHeartbeats 2000000 in
theorem ref_add (h l h' l' : Int) (wf : Wf h l) (wf' : Wf h' l') (w : World) :
  Calls Tryz.prog 34 #[.agg #[.int .i64 h, .int .u64 l], .agg #[.int .i64 h', .int .u64 l']] w fun e w' => e = .returned (.tuple #[.agg #[.int .i64 (aH h l h' l'), .int .u64 (aL h l h' l')], .int .i64 (aE h l h' l')]) ∧ Below w.heap.size w w' := by
 obtain ⟨wo, wv⟩ := ref_add_words wf wf'
 have WO := Lib.hid wo
 have WV := Lib.hid wv
 clear wo wv
 go_enter Tryz.func34, Tryz.ntmps34
 go_upto_region 1 with (fail)
 have HS := (((Own.refl w).new h l).new' h' l' (n := w.heap.size + 1) (by simp)).new' 0 0 (n := w.heap.size + 1 + 1) (by simp)
 generalize (((w.alloc _).alloc _).alloc _) = W at HS ⊢
 generalize w.heap.size + 1 + 1 = g4 at HS ⊢
 generalize w.heap.size + 1 = g3 at HS ⊢
 have hg2 : w.heap.size ≤ w.heap.size := Nat.le_refl _
 go_cut [6, 7] (fun s6 s7 wx => ∃ g, s6 = .pointer (some ⟨g, 0, none⟩) ∧ s7 = .bool (wOk (val h l + val h' l')) ∧ Own w [(g, wHi (val h l + val h' l'), wLo (val h l + val h' l')), (g4, 0, 0), (g3, h', l'), (w.heap.size, h, l)] wx)
 case first =>
  obtain ⟨f1, f2, f3, f4⟩ := HS.two (g := w.heap.size) (g' := g3) (a := h) (b := l) (a' := h') (b' := l') (by simp) (by simp)
  clear hg2
  go_region_held3 (fun W => W.cell? ⟨w.heap.size, 0, none⟩ = some (.int .i64 h) ∧ W.cell? ⟨w.heap.size, 1, none⟩ = some (.int .u64 l) ∧ W.cell? ⟨g3, 0, none⟩ = some (.int .i64 h') ∧ W.cell? ⟨g3, 1, none⟩ = some (.int .u64 l'))
   ((first
    |exact Own.two (by assumption) (by simp) (by simp)
    |exact Own.two (Own.drew (by assumption)) (by simp) (by simp)
    |exact Own.two (Own.newDrew (by assumption) 0 0) (by simp) (by simp)
    |exact Own.two (Own.new (by assumption) _ _) (by simp) (by simp)
    |exact Own.two (Own.store (by assumption) _ _) (by simp) (by simp)))
   (first
    |(go_at_call 79; refine (limbs_any _ _ (by first | exact wf | exact wf') _).mono ?_; rintro e w' ⟨rfl, hB⟩; have HS' := Own.on (by first | assumption | exact Own.drew (by assumption) | exact Own.new (by assumption) 0 0 | exact Own.newDrew (by assumption) 0 0) hB; obtain ⟨z0, z1, z2, z3⟩ := HS'.head)
    |(go_at_call 78; refine (plus_lim _ _ _).mono ?_; rintro e w' ⟨rfl, hB⟩; have HS' := Own.on (by first | assumption | exact Own.drew (by assumption) | exact Own.new (by assumption) 0 0 | exact Own.newDrew (by assumption) 0 0) hB; obtain ⟨z0, z1, z2, z3⟩ := HS'.head)
    |(go_at_call 77; refine (whole_lim _ _).mono ?_; rintro e w' ⟨rfl, hB⟩; have HS' := Own.on (by first | assumption | exact Own.drew (by assumption) | exact Own.new (by assumption) 0 0 | exact Own.newDrew (by assumption) 0 0) hB; obtain ⟨z0, z1, z2, z3⟩ := HS'.head))
  all_goals
   go_wp2_with fail
   go_meet
   exact ⟨_, rfl, rfl, by first | exact Own.store (by assumption) _ _ | exact Own.new (by assumption) _ _⟩
 case rest =>
  obtain ⟨g, rfl, rfl, HQ⟩ := hcut
  rw [WO.out]
  have hd := HQ.head
  have hz := HQ.1.look (g := g4) (a := 0) (b := 0) (by simp)
  have hf := HQ.fz (g := g4) (a := 0) (b := 0) (by simp)
  obtain ⟨d0, d1, d2, d3⟩ := hd
  obtain ⟨z0, z1⟩ := hz
  obtain ⟨y0, y1⟩ := hf
  have hb := HQ.1.1
  have hge : w.heap.size ≤ g4 := HQ.2.2 (g4, 0, 0) (by simp)
  clear HS
  cases hc : pFit h l h' l'
  ·have HG : Hid (aH h l h' l' = 0 ∧ aL h l h' l' = 0 ∧ aE h l h' l' = 3) := by unfold Hid aH aL aE; rw [hc]; exact ⟨rfl, rfl, rfl⟩
   go_wp2
   refine bodyPost_ret (v := .tuple #[.agg #[.int .i64 0, .int .u64 0], .int .i64 3]) ?_ rfl ⟨?_, ?_⟩
   ·simp [results, Tryz.results34, go_sem, z0, z1, World.cell?_setCell_other, World.cell?_setCell_same']
   ·rw [HG.out.1, HG.out.2.1, HG.out.2.2]
   ·exact (hb.setCell hge _).setCell hge _
  ·have hw := WV.out hc
   have HG : Hid (aH h l h' l' = wHi (val h l + val h' l') ∧ aL h l h' l' = wLo (val h l + val h' l') ∧ aE h l h' l' = 0) := by unfold Hid aH aL aE; rw [hc, hw.1, hw.2]; exact ⟨rfl, rfl, rfl⟩
   clear hw
   go_wp2
   refine bodyPost_ret (v := .tuple #[.agg #[.int .i64 (wHi (val h l + val h' l')), .int .u64 (wLo (val h l + val h' l'))], .int .i64 0]) ?_ rfl ⟨?_, ?_⟩
   ·simp [results, Tryz.results34, go_sem, z0, z1, World.cell?_setCell_other, World.cell?_setCell_same']
   ·rw [HG.out.1, HG.out.2.1, HG.out.2.2]
   ·exact (hb.setCell hge _).setCell hge _

theorem ref_sub_words {h l h' l' : Int} (wf : Wf h l) (wf' : Wf h' l') : wOk (val h l + -val h' l') = mFit h l h' l' ∧ (mFit h l h' l' = true → wHi (val h l + -val h' l') = mHi h l h' l' ∧ wLo (val h l + -val h' l') = mLo l l') := by
 have v1 := wf_val wf
 have v2 := wf_val wf'
 have ho : wOk (val h l + -val h' l') = decide (InR (val h l + -val h' l')) := by
  unfold InR at v1 v2
  exact whole_ok (by omega) (by omega)
 have hf := minus_fit wf wf'
 have e : (val h l + -val h' l') = val h l - val h' l' := by omega
 rw [e] at ho ⊢
 rw [ho, hf]
 refine ⟨rfl, fun ht => ?_⟩
 have hr := of_decide_eq_true ht
 exact val_inj (whole_wf _) minus_wf ((whole_val hr).trans (minus_val wf wf' hr).symm)

set_option maxRecDepth 100000 in
set_option maxHeartbeats 2000000 in
theorem ref_sub (h l h' l' : Int) (wf : Wf h l) (wf' : Wf h' l') (w : World) :
  Calls Tryz.prog 75 #[.agg #[.int .i64 h, .int .u64 l], .agg #[.int .i64 h', .int .u64 l']] w fun e w' => e = .returned (.tuple #[.agg #[.int .i64 (bH h l h' l'), .int .u64 (bL h l h' l')], .int .i64 (bE h l h' l')]) ∧ Below w.heap.size w w' := by
 obtain ⟨wo, wv⟩ := ref_sub_words wf wf'
 have WO := Lib.hid wo
 have WV := Lib.hid wv
 clear wo wv
 go_enter Tryz.func75, Tryz.ntmps75
 go_upto_region 1 with (fail)
 have HS := (((Own.refl w).new h l).new' h' l' (n := w.heap.size + 1) (by simp)).new' 0 0 (n := w.heap.size + 1 + 1) (by simp)
 generalize (((w.alloc _).alloc _).alloc _) = W at HS ⊢
 generalize w.heap.size + 1 + 1 = g4 at HS ⊢
 generalize w.heap.size + 1 = g3 at HS ⊢
 have hg2 : w.heap.size ≤ w.heap.size := Nat.le_refl _
 go_cut [6, 7] (fun s6 s7 wx => ∃ g, s6 = .pointer (some ⟨g, 0, none⟩) ∧ s7 = .bool (wOk (val h l + -val h' l')) ∧ Own w [(g, wHi (val h l + -val h' l'), wLo (val h l + -val h' l')), (g4, 0, 0), (g3, h', l'), (w.heap.size, h, l)] wx)
 case first =>
  obtain ⟨f1, f2, f3, f4⟩ := HS.two (g := w.heap.size) (g' := g3) (a := h) (b := l) (a' := h') (b' := l') (by simp) (by simp)
  clear hg2
  go_region_held3 (fun W => W.cell? ⟨w.heap.size, 0, none⟩ = some (.int .i64 h) ∧ W.cell? ⟨w.heap.size, 1, none⟩ = some (.int .u64 l) ∧ W.cell? ⟨g3, 0, none⟩ = some (.int .i64 h') ∧ W.cell? ⟨g3, 1, none⟩ = some (.int .u64 l'))
   ((first
    |exact Own.two (by assumption) (by simp) (by simp)
    |exact Own.two (Own.drew (by assumption)) (by simp) (by simp)
    |exact Own.two (Own.newDrew (by assumption) 0 0) (by simp) (by simp)
    |exact Own.two (Own.new (by assumption) _ _) (by simp) (by simp)
    |exact Own.two (Own.store (by assumption) _ _) (by simp) (by simp)))
   (first
    |(go_at_call 79; refine (limbs_any _ _ (by first | exact wf | exact wf') _).mono ?_; rintro e w' ⟨rfl, hB⟩; have HS' := Own.on (by first | assumption | exact Own.drew (by assumption) | exact Own.new (by assumption) 0 0 | exact Own.newDrew (by assumption) 0 0) hB; obtain ⟨z0, z1, z2, z3⟩ := HS'.head)
    |(go_at_call 78; refine (plus_lim _ _ _).mono ?_; rintro e w' ⟨rfl, hB⟩; have HS' := Own.on (by first | assumption | exact Own.drew (by assumption) | exact Own.new (by assumption) 0 0 | exact Own.newDrew (by assumption) 0 0) hB; obtain ⟨z0, z1, z2, z3⟩ := HS'.head)
    |(go_at_call 117; refine (minus_lim _ _).mono ?_; rintro e w' ⟨rfl, hB⟩; have HS' := Own.on (by first | assumption | exact Own.drew (by assumption) | exact Own.new (by assumption) 0 0 | exact Own.newDrew (by assumption) 0 0) hB; obtain ⟨z0, z1, z2, z3⟩ := HS'.head)
    |(go_at_call 77; refine (whole_lim _ _).mono ?_; rintro e w' ⟨rfl, hB⟩; have HS' := Own.on (by first | assumption | exact Own.drew (by assumption) | exact Own.new (by assumption) 0 0 | exact Own.newDrew (by assumption) 0 0) hB; obtain ⟨z0, z1, z2, z3⟩ := HS'.head))
  all_goals
   go_wp2_with fail
   go_meet
   exact ⟨_, rfl, rfl, by first | exact Own.store (by assumption) _ _ | exact Own.new (by assumption) _ _⟩
 case rest =>
  obtain ⟨g, rfl, rfl, HQ⟩ := hcut
  rw [WO.out]
  have hd := HQ.head
  have hz := HQ.1.look (g := g4) (a := 0) (b := 0) (by simp)
  have hf := HQ.fz (g := g4) (a := 0) (b := 0) (by simp)
  obtain ⟨d0, d1, d2, d3⟩ := hd
  obtain ⟨z0, z1⟩ := hz
  obtain ⟨y0, y1⟩ := hf
  have hb := HQ.1.1
  have hge : w.heap.size ≤ g4 := HQ.2.2 (g4, 0, 0) (by simp)
  clear HS
  cases hc : mFit h l h' l'
  ·have HG : Hid (bH h l h' l' = 0 ∧ bL h l h' l' = 0 ∧ bE h l h' l' = 3) := by unfold Hid bH bL bE; rw [hc]; exact ⟨rfl, rfl, rfl⟩
   go_wp2
   refine bodyPost_ret (v := .tuple #[.agg #[.int .i64 0, .int .u64 0], .int .i64 3]) ?_ rfl ⟨?_, ?_⟩
   ·simp [results, Tryz.results75, go_sem, z0, z1, World.cell?_setCell_other, World.cell?_setCell_same']
   ·rw [HG.out.1, HG.out.2.1, HG.out.2.2]
   ·exact (hb.setCell hge _).setCell hge _
  ·have hw := WV.out hc
   have HG : Hid (bH h l h' l' = wHi (val h l + -val h' l') ∧ bL h l h' l' = wLo (val h l + -val h' l') ∧ bE h l h' l' = 0) := by unfold Hid bH bL bE; rw [hc, hw.1, hw.2]; exact ⟨rfl, rfl, rfl⟩
   clear hw
   go_wp2
   refine bodyPost_ret (v := .tuple #[.agg #[.int .i64 (wHi (val h l + -val h' l')), .int .u64 (wLo (val h l + -val h' l'))], .int .i64 0]) ?_ rfl ⟨?_, ?_⟩
   ·simp [results, Tryz.results75, go_sem, z0, z1, World.cell?_setCell_other, World.cell?_setCell_same']
   ·rw [HG.out.1, HG.out.2.1, HG.out.2.2]
   ·exact (hb.setCell hge _).setCell hge _

end Go.Proofs.YtjlnjjmomohpaaaGreat
