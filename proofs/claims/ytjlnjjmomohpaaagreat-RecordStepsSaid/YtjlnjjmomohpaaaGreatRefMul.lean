/- The contracts of the document's own answers: a number in two words, and the product, bit by bit. -/
import Derived.Test.YtjlnjjmomohpaaaGreatRefB
import Derived.Deep.DeepCutAuto
import Derived.Deep.LoopGhost
namespace Go.Proofs.YtjlnjjmomohpaaaGreat
open Go.RowKit

theorem of_neg {n : Int} (h1 : -9223372036854775808 ≤ n) (h : n < 0) : hiOf n = -1 ∧ loOf n = uw n := by unfold hiOf loOf uw; omega
theorem of_pos {n : Int} (h2 : n ≤ 9223372036854775807) (h : 0 ≤ n) : hiOf n = 0 ∧ loOf n = uw n := by unfold hiOf loOf uw; omega

set_option maxHeartbeats 400000 in
theorem ref_of (n : Int) (w : World) (h1 : -9223372036854775808 ≤ n) (h2 : n ≤ 9223372036854775807) :
  Calls Tryz.prog 118 #[.int .i64 n] w fun e w' => e = .returned (.agg #[.int .i64 (hiOf n), .int .u64 (loOf n)]) ∧ Below w.heap.size w w' := by
 by_cases hn : n < 0
 ·obtain ⟨e1, e2⟩ := of_neg h1 hn
  have E1 := Lib.hid e1
  have E2 := Lib.hid e2
  clear e1 e2 h1 h2
  go_enter Tryz.func118, Tryz.ntmps118
  go_wp2
  refine bodyPost_ret (v := .agg #[.int .i64 (hiOf n), .int .u64 (loOf n)]) ?_ rfl ⟨rfl, by go_grown⟩
  rw [E1.out, E2.out]
  simp [results, Tryz.results118, go_sem, wrap_uw]
 ·obtain ⟨e1, e2⟩ := of_pos h2 (by omega)
  have E1 := Lib.hid e1
  have E2 := Lib.hid e2
  clear e1 e2 h1 h2
  go_enter Tryz.func118, Tryz.ntmps118
  go_wp2
  refine bodyPost_ret (v := .agg #[.int .i64 (hiOf n), .int .u64 (loOf n)]) ?_ rfl ⟨rfl, by go_grown⟩
  rw [E1.out, E2.out]
  simp [results, Tryz.results118, go_sem, wrap_uw]

structure Mill (w : World) (g4 g5 g6 : Nat) (x s : Int) (W : World) : Prop where
 r : W.heap[g4]? = some (.cells #[.int .i64 0, .int .u64 0] 67 (0, 0))
 x : W.heap[g5]? = some (.cells #[.int .u32 (lim0 x), .int .u32 (lim1 x), .int .u32 (lim2 x), .int .u32 (lim3 x), .int .u32 (lim4 x)] 133 (0, 0))
 s : W.heap[g6]? = some (.cells #[.int .u32 (lim0 s), .int .u32 (lim1 s), .int .u32 (lim2 s), .int .u32 (lim3 s), .int .u32 (lim4 s)] 133 (0, 0))
 below : Below w.heap.size w W
 l4 : w.heap.size ≤ g4
 l5 : g4 < g5
 l6 : g5 < g6
section
variable {w W W' : World} {g4 g5 g6 : Nat} {x s : Int}
theorem Mill.on (h : Mill w g4 g5 g6 x s W) (hb : Below W.heap.size W W') : Mill w g4 g5 g6 x s W' :=
 ⟨(hb.block _ (blk_lt h.r)).trans h.r, (hb.block _ (blk_lt h.x)).trans h.x, (hb.block _ (blk_lt h.s)).trans h.s, h.below.trans (hb.mono h.below.size), h.l4, h.l5, h.l6⟩
theorem five_facts {W : World} {g : Nat} {t : TypeId} {a b c d e : Value} (h : W.heap[g]? = some (.cells #[a, b, c, d, e] t (0, 0))) :
  W.cell? ⟨g, 0, none⟩ = some a ∧ W.cell? ⟨g, 1, none⟩ = some b ∧ W.cell? ⟨g, 2, none⟩ = some c ∧ W.cell? ⟨g, 3, none⟩ = some d ∧ W.cell? ⟨g, 4, none⟩ = some e ∧
  W.frozen? ⟨g, 0, none⟩ = false ∧ W.frozen? ⟨g, 1, none⟩ = false ∧ W.frozen? ⟨g, 2, none⟩ = false ∧ W.frozen? ⟨g, 3, none⟩ = false ∧ W.frozen? ⟨g, 4, none⟩ = false :=
 ⟨blk_cell h 0, blk_cell h 1, blk_cell h 2, blk_cell h 3, blk_cell h 4, blk_frozen h 0, blk_frozen h 1, blk_frozen h 2, blk_frozen h 3, blk_frozen h 4⟩
def set5 (W : World) (g : Nat) (a b c d e : Value) : World := ((((W.setCell ⟨g, 0, none⟩ a).setCell ⟨g, 1, none⟩ b).setCell ⟨g, 2, none⟩ c).setCell ⟨g, 3, none⟩ d).setCell ⟨g, 4, none⟩ e
theorem set5_same {g : Nat} {t : TypeId} {a b c d e : Value} (h : W.heap[g]? = some (.cells #[a, b, c, d, e] t (0, 0))) (a' b' c' d' e' : Value) : (set5 W g a' b' c' d' e').heap[g]? = some (.cells #[a', b', c', d', e'] t (0, 0)) := by
 unfold set5
 simp [World.setCell, Array.getElem?_modify, h]
theorem set5_far {g k : Nat} (hk : k ≠ g) (a' b' c' d' e' : Value) : (set5 W g a' b' c' d' e').heap[k]? = W.heap[k]? := by
 unfold set5
 exact (Below.heap_setCell _ _ _ k hk).trans ((Below.heap_setCell _ _ _ k hk).trans ((Below.heap_setCell _ _ _ k hk).trans ((Below.heap_setCell _ _ _ k hk).trans (Below.heap_setCell _ _ _ k hk))))
theorem set5_below {B g : Nat} {a : World} (h : Below B a W) (hg : B ≤ g) (a' b' c' d' e' : Value) : Below B a (set5 W g a' b' c' d' e') := by
 unfold set5
 exact ((((h.setCell hg _).setCell hg _).setCell hg _).setCell hg _).setCell hg _
def lims (n : Int) (W : World) (g : Nat) : World := set5 W g (.int .u32 (lim0 n)) (.int .u32 (lim1 n)) (.int .u32 (lim2 n)) (.int .u32 (lim3 n)) (.int .u32 (lim4 n))
theorem Mill.setX (h : Mill w g4 g5 g6 x s W) (n : Int) : Mill w g4 g5 g6 n s (lims n W g5) :=
 ⟨(set5_far (by have := h.l5; omega) _ _ _ _ _).trans h.r, set5_same h.x _ _ _ _ _, (set5_far (by have := h.l6; omega) _ _ _ _ _).trans h.s, set5_below h.below (by have := h.l4; have := h.l5; omega) _ _ _ _ _, h.l4, h.l5, h.l6⟩
theorem Mill.setS (h : Mill w g4 g5 g6 x s W) (n : Int) : Mill w g4 g5 g6 x n (lims n W g6) :=
 ⟨(set5_far (by have := h.l5; have := h.l6; omega) _ _ _ _ _).trans h.r, (set5_far (by have := h.l6; omega) _ _ _ _ _).trans h.x, set5_same h.s _ _ _ _ _, set5_below h.below (by have := h.l4; have := h.l5; have := h.l6; omega) _ _ _ _ _, h.l4, h.l5, h.l6⟩
end

theorem mill_start {w w1 w2 : World} {a : Int} (h1 : Below (w.alloc (Obj.cells #[.int .i64 0, .int .u64 0] 67)).heap.size (w.alloc (Obj.cells #[.int .i64 0, .int .u64 0] 67)) w1) (h2 : Below w1.heap.size w1 w2) :
  Mill w w.heap.size w2.heap.size (w2.heap.size + 1) a 0 ((w2.alloc (Obj.cells #[.int .u32 (lim0 a), .int .u32 (lim1 a), .int .u32 (lim2 a), .int .u32 (lim3 a), .int .u32 (lim4 a)] 133)).alloc (Obj.cells #[.int .u32 0, .int .u32 0, .int .u32 0, .int .u32 0, .int .u32 0] 133)) := by
 have hs1 := h1.size
 have hs2 := h2.size
 rw [World.size_alloc] at hs1
 have e0 := heap_alloc_new w (Obj.cells #[.int .i64 0, .int .u64 0] 67)
 have b1 := (h1.block w.heap.size (by rw [World.size_alloc]; omega)).trans e0
 have b2 := (h2.block w.heap.size (by omega)).trans b1
 have x0 := heap_alloc_new w2 (Obj.cells #[.int .u32 (lim0 a), .int .u32 (lim1 a), .int .u32 (lim2 a), .int .u32 (lim3 a), .int .u32 (lim4 a)] 133)
 have z0 := heap_alloc_new (w2.alloc (Obj.cells #[.int .u32 (lim0 a), .int .u32 (lim1 a), .int .u32 (lim2 a), .int .u32 (lim3 a), .int .u32 (lim4 a)] 133)) (Obj.cells #[.int .u32 0, .int .u32 0, .int .u32 0, .int .u32 0, .int .u32 0] 133)
 rw [World.size_alloc] at z0
 obtain ⟨l0, l1, l2, l3, l4⟩ := lim_zero
 have B0 : Below w.heap.size w (w.alloc (Obj.cells #[.int .i64 0, .int .u64 0] 67)) := by go_grown
 have B1 : Below w.heap.size w w1 := B0.trans (h1.mono (by rw [World.size_alloc]; omega))
 have B2 : Below w.heap.size w w2 := B1.trans (h2.mono (by omega))
 refine ⟨blk_alloc (blk_alloc b2 _) _, blk_alloc x0 _, ?_, (B2.alloc (by omega) _).alloc (by rw [World.size_alloc]; omega) _, Nat.le_refl _, by omega, by omega⟩
 rw [l0, l1, l2, l3, l4]
 exact z0

def mag (b : Int) : Int := if b < 0 then uw (-uw b) else uw b
theorem mag_is {b : Int} (h1 : -9223372036854775808 ≤ b) (h2 : b ≤ 9223372036854775807) : mag b = (b.natAbs : Int) ∧ 0 ≤ mag b ∧ mag b ≤ 9223372036854775808 := by
 unfold mag uw
 split <;> omega

theorem bit_step {m : Int} (h : 0 ≤ m) (n : Nat) : m % 2 ^ (n + 1) = m % 2 ^ n + 2 ^ n * (m / 2 ^ n % 2) := by
 obtain ⟨k, rfl⟩ := Int.eq_ofNat_of_zero_le h
 have := Nat.mod_mul (a := 2 ^ n) (b := 2) (x := k)
 rw [← Nat.pow_succ] at this
 exact_mod_cast this
theorem bit_01 (m : Int) (n : Nat) : 0 ≤ m / 2 ^ n % 2 ∧ m / 2 ^ n % 2 ≤ 1 := by omega
theorem and_bit {m : Int} (h0 : 0 ≤ m) (h1 : m ≤ 9223372036854775808) (n : Nat) : bits BinOp.and IntKind.u64 (m / 2 ^ n) 1 = m / 2 ^ n % 2 := by
 obtain ⟨k, rfl⟩ := Int.eq_ofNat_of_zero_le h0
 have hle : k / 2 ^ n ≤ k := Nat.div_le_self ..
 have h := bits_and_u64_nat (k / 2 ^ n) 1 (by omega) (by omega)
 rw [Nat.and_one_is_mod] at h
 exact_mod_cast h
theorem whole_of {n : Int} (h : InR n) : wHi n = hiOf n ∧ wLo n = loOf n :=
 val_inj (whole_wf _) (wf_of h) ((whole_val h).trans (val_of n).symm)

set_option maxRecDepth 100000 in
set_option maxHeartbeats 2000000 in
theorem ref_mul (a b : Int) (ha1 : -9223372036854775808 ≤ a) (ha2 : a ≤ 9223372036854775807) (hb1 : -9223372036854775808 ≤ b) (hb2 : b ≤ 9223372036854775807) (w : World) :
  Calls Tryz.prog 76 #[.int .i64 a, .int .i64 b] w fun e w' => e = .returned (.agg #[.int .i64 (hiOf (a * b)), .int .u64 (loOf (a * b))]) ∧ Below w.heap.size w w' := by
 have MB0 := Lib.hid (mag_is hb1 hb2)
 have RI := Lib.hid (mul_inR a b ha1 ha2 hb1 hb2)
 have O1 := Lib.hid (fun W => ref_of a W ha1 ha2)
 have hl := fun W => limbs_any (hiOf a) (loOf a) (wf_of (by unfold InR; omega)) W
 rw [val_of] at hl
 have L1 := Lib.hid hl
 clear hl ha1 ha2 hb1 hb2
 go_enter Tryz.func76, Tryz.ntmps76
 go_wp2_with fail
 go_at_call 118
 refine (O1.out _).mono ?_
 rintro e w1 ⟨rfl, hB1⟩
 go_wp2_with fail
 go_at_call 79
 refine (L1.out _).mono ?_
 rintro e w2 ⟨rfl, hB2⟩
 go_upto_if 18 with (fail)
 have M : Mill w w.heap.size w2.heap.size (w2.heap.size + 1) a 0 ((w2.alloc (Obj.cells #[.int .u32 (lim0 a), .int .u32 (lim1 a), .int .u32 (lim2 a), .int .u32 (lim3 a), .int .u32 (lim4 a)] 133)).alloc (Obj.cells #[.int .u32 0, .int .u32 0, .int .u32 0, .int .u32 0, .int .u32 0] 133)) := mill_start hB1 hB2
 generalize (World.alloc (World.alloc w2 _) _) = W at M ⊢
 generalize w2.heap.size + 1 = g6 at M ⊢
 generalize w2.heap.size = g5 at M ⊢
 generalize w.heap.size = g4 at M ⊢
 clear O1 L1
 go_cut [7] (fun s7 wx => s7 = .int .u64 (mag b) ∧ wx = W)
 case first =>
  by_cases hb : b < 0
  ·go_wp2_with fail
   go_meet
   exact ⟨(by unfold mag; rw [if_pos hb]; simp only [wrap_uw]), rfl⟩
  ·go_wp2_with fail
   go_meet
   exact ⟨(by unfold mag; rw [if_neg (by omega)]; simp only [wrap_uw]), rfl⟩
 case rest =>
  obtain ⟨rfl, rfl⟩ := hcut
  have MB := MB0
  clear MB0
  generalize mag b = m at MB ⊢
  go_wp2_with fail
  go_loopg [8] 64 (fun k i wr => ∃ n : Nat, n ≤ 64 ∧ k = 64 - n ∧ i = .int .i64 n ∧ Mill w g4 g5 g6 (a * 2 ^ n) (a * (m % 2 ^ n)) wr)
  case atStart => exact ⟨0, by omega, rfl, rfl, by simpa using M⟩
  case round =>
   obtain ⟨n, hn, hk, rfl, HM⟩ := hrel
   have hk' := Lib.hid hk
   clear hk M
   have P1 := Lib.hid (fun x y W => plus_lim x y W)
   by_cases hlt : n < 64
   ·obtain ⟨f0, f1, f2, f3, f4, y0, y1, y2, y3, y4⟩ := five_facts HM.x
    obtain ⟨h0, h1, h2, h3, h4, z0, z1, z2, z3, z4⟩ := five_facts HM.s
    have b0 : (0 : Int) ≤ (n : Int) := by omega
    have b1 : (n : Int) < 64 := by omega
    go_upto_if 30 with (fail)
    go_cut [] (fun wx => Mill w g4 g5 g6 (a * 2 ^ n) (a * (m % 2 ^ (n + 1))) wx)
    case first =>
     by_cases hbit : bits BinOp.and IntKind.u64 (m / 2 ^ n) 1 = 1
     ·go_wp2_with fail
      go_at_call 78
      refine (P1.out _ _ _).mono ?_
      rintro e wa ⟨rfl, hB⟩
      have HA := HM.on hB
      clear h0 h1 h2 h3 h4 z0 z1 z2 z3 z4 f0 f1 f2 f3 f4 y0 y1 y2 y3 y4
      obtain ⟨h0, h1, h2, h3, h4, z0, z1, z2, z3, z4⟩ := five_facts HA.s
      go_wp2_with fail
      go_meet
      have e : a * (m % 2 ^ n) + a * 2 ^ n = a * (m % 2 ^ (n + 1)) := by
       obtain ⟨-, m0, m1⟩ := MB.out
       rw [bit_step m0, ← Int.mul_add, ← and_bit m0 m1, hbit, Int.mul_one]
      rw [← e]
      exact HA.setS _
     ·go_wp2_with fail
      go_meet
      have e : a * (m % 2 ^ n) = a * (m % 2 ^ (n + 1)) := by
       obtain ⟨-, m0, m1⟩ := MB.out
       have hx := bit_01 m n
       rw [and_bit m0 m1] at hbit
       rw [bit_step m0, show m / 2 ^ n % 2 = 0 by omega, Int.mul_zero, Int.add_zero]
      rw [← e]
      exact HM
    case rest =>
     clear h0 h1 h2 h3 h4 f0 f1 f2 f3 f4 y0 y1 y2 y3 y4 z0 z1 z2 z3 z4
     obtain ⟨f0, f1, f2, f3, f4, y0, y1, y2, y3, y4⟩ := five_facts hcut.x
     go_wp2_with fail
     go_at_call 78
     refine (P1.out _ _ _).mono ?_
     rintro e wa ⟨rfl, hB⟩
     have HA := hcut.on hB
     clear f0 f1 f2 f3 f4 y0 y1 y2 y3 y4 HM hcut
     obtain ⟨f0, f1, f2, f3, f4, y0, y1, y2, y3, y4⟩ := five_facts HA.x
     go_wp2_with fail
     go_roundg (63 - n)
     case measure => rw [hk'.out]; omega
     case rel =>
      refine ⟨n + 1, by omega, by omega, by go_num, ?_⟩
      have e : a * 2 ^ n + a * 2 ^ n = a * 2 ^ (n + 1) := by rw [Int.pow_succ, ← Int.mul_assoc]; omega
      rw [← e]
      exact HA.setX _
   ·obtain rfl : n = 64 := by omega
    obtain ⟨h0, h1, h2, h3, h4, z0, z1, z2, z3, z4⟩ := five_facts HM.s
    have em : a * (m % 2 ^ 64) = a * m := by rw [Int.emod_eq_of_lt MB.out.2.1 (by have := MB.out.2.2; omega)]
    rw [em] at HM h0 h1 h2 h3 h4
    have EM := Lib.hid em
    clear em
    have N1 := Lib.hid (fun W => minus_lim (a * m) W)
    have W1 := Lib.hid (fun W => whole_lim (a * b) W)
    clear P1 z0 z1 z2 z3 z4
    go_upto_if 38 with (fail)
    go_cut [] (fun wx => Mill w g4 g5 g6 (a * 2 ^ 64) (a * b) wx)
    case first =>
     by_cases hb : b < 0
     ·go_wp2_with fail
      go_at_call 117
      refine (N1.out _).mono ?_
      rintro e wa ⟨rfl, hB⟩
      have HA := HM.on hB
      clear h0 h1 h2 h3 h4
      obtain ⟨h0, h1, h2, h3, h4, z0, z1, z2, z3, z4⟩ := five_facts HA.s
      go_wp2_with fail
      go_meet
      have e : -(a * m) = a * b := by
       have hm := MB.out.1
       rw [show m = -b by omega, Int.mul_neg, Int.neg_neg]
      rw [← e]
      exact HA.setS _
     ·go_wp2_with fail
      go_meet
      have e : a * m = a * b := by
       have hm := MB.out.1
       rw [show m = b by omega]
      rw [← e]
      exact HM
    case rest =>
     clear h0 h1 h2 h3 h4 HM
     obtain ⟨h0, h1, h2, h3, h4, z0, z1, z2, z3, z4⟩ := five_facts hcut.s
     go_wp2_with fail
     go_at_call 77
     refine (W1.out _).mono ?_
     rintro e wa ⟨rfl, hB⟩
     have HA := hcut.on hB
     clear h0 h1 h2 h3 h4 z0 z1 z2 z3 z4 hcut
     obtain ⟨⟨r0, r1, r2, r3⟩, -⟩ := pair_facts HA.r
     have hlt := blk_lt HA.r
     have hb4 : Below w.heap.size w wa := HA.below
     have hg4 := HA.l4
     go_wp2
     refine bodyPost_ret (v := .agg #[.int .i64 (wHi (a * b)), .int .u64 (wLo (a * b))]) ?_ rfl ⟨?_, ?_⟩
     ·obtain ⟨⟨q0, q1, -, -⟩, -⟩ := pair_facts (blk_alloc (set_pair HA.r (.int .i64 (wHi (a * b))) (.int .u64 (wLo (a * b)))) (Obj.cells #[.int .i64 (wHi (a * b)), .int .u64 (wLo (a * b))] 67))
      simp [results, Tryz.results76, go_sem, q0, q1]
     ·obtain ⟨e1, e2⟩ := whole_of RI.out
      rw [e1, e2]
     ·have hs : w.heap.size ≤ wa.heap.size := hb4.size
      exact ((hb4.setCell hg4 _).setCell hg4 _).alloc (by simpa using hs) _
end Go.Proofs.YtjlnjjmomohpaaaGreat
