/- The law JsonDeep: its walk. -/
import Derived.Test.YtmjooghfghmngaaDoorJDpP
import Derived.Test.YtmjooghfghmngaaDoorJOwn
import Derived.Test.YtmjooghfghmngaaDoorJBackL
import Derived.Test.YtmjooghfghmngaaDoorJNumL
namespace Go.Proofs.YtmjooghfghmngaaDoor
open Go.RowKit Go.Shelf Go.Lib

/-- The value that the law has made so far: in the box g, the rest of it behind it. -/
structure DeepI (W : World) (g : Nat) (o : Bool) (j : Nat) (wr : World) : Prop where
  below : Below W.heap.size W wr
  low : W.heap.size ≤ g
  val : ∃ (k : Int) (t : ByteArray) (A1 : Option Addr) (n1 c1 : Nat) (A2 : Option Addr) (n2 c2 : Nat), wr.heap[g]? = some (.cells #[.int .i64 k, .string t, .slice A1 n1 c1, .slice A2 n2 c2] 25 (0, 0)) ∧ VAt wr (fun q => g < q ∧ q < wr.heap.size) (j + 1) ⟨k, t, .slice A1 n1 c1, .slice A2 n2 c2⟩ (deepJ o j)
theorem DeepI.start {W W1 : World} (o : Bool) (hb : Below W.heap.size W W1) : DeepI W W1.heap.size o 0 (W1.alloc (Obj.cells #[.int .i64 6, .string ⟨#[]⟩, .slice none 0 0, .slice none 0 0] 25 (0, 0))) :=
  ⟨hb.alloc hb.size _, hb.size, 6, ⟨#[]⟩, none, 0, 0, none, 0, 0, heap_alloc_new _ _, rfl, rfl, ⟨none, 0, rfl, Nat.le_refl _, fun i t h => by cases h⟩, none, 0, rfl, Nat.le_refl _, fun i x h => by cases h⟩

theorem parse_none {w : World} {A : Option Addr} {c : Nat} {s : List UInt8} {a : Nat} {e' : Int} (hx : parseN s = .error (a, e')) (hE : Env w) (hB : Lib.BytesAt w A s.length s) (hA : ∀ ad, A = some ad → ad.block < w.heap.size) (hle : s.length ≤ c) (hcap : c ≤ 9223372036854775807) :
    Calls Tryd.prog 13 #[.slice A s.length c] w fun e w' => e = .returned (.tuple #[.agg #[.int .i64 0, .string ⟨#[]⟩, .slice none 0 0, .slice none 0 0], .int .i64 a, .int .i64 e']) ∧ Below w.heap.size w w' := parse_no hx hE hB hA hle hcap
theorem one_at {α : Type} {a x : α} {i : Nat} (h : [a][i]? = some x) : i = 0 ∧ x = a := by
  match i, h with
  | 0, h => cases h; exact ⟨rfl, rfl⟩
theorem DeepI.obj {W wr : World} {g j : Nat} {kk : Int} {tt : ByteArray} {A1 A2 : Option Addr} {n1 c1 n2 c2 : Nat} (h : DeepI W g true j wr) (hx : wr.heap[g]? = some (.cells #[.int .i64 kk, .string tt, .slice A1 n1 c1, .slice A2 n2 c2] 25 (0, 0)))
    (hv : VAt wr (fun q => g < q ∧ q < wr.heap.size) (j + 1) ⟨kk, tt, .slice A1 n1 c1, .slice A2 n2 c2⟩ (deepJ true j)) : DeepI W g true (j + 1) ((((((wr.alloc (Obj.cells #[.string ⟨#[97]⟩] 9)).alloc (Obj.cells #[.int .i64 kk, .string tt, .slice A1 n1 c1, .slice A2 n2 c2] 25)).setCell ⟨g, 0, none⟩ (.int .i64 7)).setCell ⟨g, 1, none⟩ (.string ⟨#[]⟩)).setCell ⟨g, 2, none⟩ (.slice (some ⟨wr.heap.size, 0, none⟩) 1 1)).setCell ⟨g, 3, none⟩ (.slice (some ⟨wr.heap.size + 1, 0, none⟩) 1 1)) := by
  have hg := blk_lt hx
  have x0 := blk_alloc (blk_alloc hx (Obj.cells #[.string ⟨#[97]⟩] 9)) (Obj.cells #[.int .i64 kk, .string tt, .slice A1 n1 c1, .slice A2 n2 c2] 25)
  have x1 := blk_alloc (heap_alloc_new wr (Obj.cells #[.string ⟨#[97]⟩] 9)) (Obj.cells #[.int .i64 kk, .string tt, .slice A1 n1 c1, .slice A2 n2 c2] 25)
  have x2 := heap_alloc_new (wr.alloc (Obj.cells #[.string ⟨#[97]⟩] 9)) (Obj.cells #[.int .i64 kk, .string tt, .slice A1 n1 c1, .slice A2 n2 c2] 25)
  rw [World.size_alloc] at x2
  have hb : Below W.heap.size W ((wr.alloc (Obj.cells #[.string ⟨#[97]⟩] 9)).alloc (Obj.cells #[.int .i64 kk, .string tt, .slice A1 n1 c1, .slice A2 n2 c2] 25)) := (h.below.alloc h.below.size _).alloc (by rw [World.size_alloc]; exact Nat.le_succ_of_le h.below.size) _
  have hs : ((wr.alloc (Obj.cells #[.string ⟨#[97]⟩] 9)).alloc (Obj.cells #[.int .i64 kk, .string tt, .slice A1 n1 c1, .slice A2 n2 c2] 25)).heap.size = wr.heap.size + 2 := by rw [World.size_alloc, World.size_alloc]
  have ho : ∀ q, q < wr.heap.size → ((wr.alloc (Obj.cells #[.string ⟨#[97]⟩] 9)).alloc (Obj.cells #[.int .i64 kk, .string tt, .slice A1 n1 c1, .slice A2 n2 c2] 25)).heap[q]? = wr.heap[q]? := fun q hq => (Below.heap_alloc _ _ q (by rw [World.size_alloc]; omega)).trans (Below.heap_alloc wr _ q hq)
  generalize ((wr.alloc (Obj.cells #[.string ⟨#[97]⟩] 9)).alloc (Obj.cells #[.int .i64 kk, .string tt, .slice A1 n1 c1, .slice A2 n2 c2] 25)) = w1 at *
  have hlow := h.low
  have ff : ∀ q, q ≠ g → ((((w1.setCell ⟨g, 0, none⟩ (.int .i64 7)).setCell ⟨g, 1, none⟩ (.string ⟨#[]⟩)).setCell ⟨g, 2, none⟩ (.slice (some ⟨wr.heap.size, 0, none⟩) 1 1)).setCell ⟨g, 3, none⟩ (.slice (some ⟨wr.heap.size + 1, 0, none⟩) 1 1)).heap[q]? = w1.heap[q]? := fun q hq =>
    (Below.heap_setCell _ _ _ q hq).trans ((Below.heap_setCell _ _ _ q hq).trans ((Below.heap_setCell _ _ _ q hq).trans (Below.heap_setCell _ _ _ q hq)))
  have fz : ((((w1.setCell ⟨g, 0, none⟩ (.int .i64 7)).setCell ⟨g, 1, none⟩ (.string ⟨#[]⟩)).setCell ⟨g, 2, none⟩ (.slice (some ⟨wr.heap.size, 0, none⟩) 1 1)).setCell ⟨g, 3, none⟩ (.slice (some ⟨wr.heap.size + 1, 0, none⟩) 1 1)).heap.size = w1.heap.size := by simp [World.setCell]
  have fb : Below W.heap.size W ((((w1.setCell ⟨g, 0, none⟩ (.int .i64 7)).setCell ⟨g, 1, none⟩ (.string ⟨#[]⟩)).setCell ⟨g, 2, none⟩ (.slice (some ⟨wr.heap.size, 0, none⟩) 1 1)).setCell ⟨g, 3, none⟩ (.slice (some ⟨wr.heap.size + 1, 0, none⟩) 1 1)) :=
    (((hb.setCell (p := ⟨g, 0, none⟩) hlow _).setCell (p := ⟨g, 1, none⟩) hlow _).setCell (p := ⟨g, 2, none⟩) hlow _).setCell (p := ⟨g, 3, none⟩) hlow _
  have fx := blk_set (blk_set (blk_set (blk_set x0 0 (.int .i64 7)) 1 (.string ⟨#[]⟩)) 2 (.slice (some ⟨wr.heap.size, 0, none⟩) 1 1)) 3 (.slice (some ⟨wr.heap.size + 1, 0, none⟩) 1 1)
  simp only [List.setIfInBounds_toArray, List.set_cons_zero, List.set_cons_succ] at fx
  generalize ((((w1.setCell ⟨g, 0, none⟩ (.int .i64 7)).setCell ⟨g, 1, none⟩ (.string ⟨#[]⟩)).setCell ⟨g, 2, none⟩ (.slice (some ⟨wr.heap.size, 0, none⟩) 1 1)).setCell ⟨g, 3, none⟩ (.slice (some ⟨wr.heap.size + 1, 0, none⟩) 1 1)) = w2 at *
  have y1 := (ff wr.heap.size (by omega)).trans x1
  have y2 := (ff (wr.heap.size + 1) (by omega)).trans x2
  refine ⟨fb, hlow, 7, ⟨#[]⟩, _, 1, 1, _, 1, 1, fx, rfl, rfl, ⟨_, 1, rfl, Nat.le_refl _, fun i t ht => ?_⟩, _, 1, rfl, Nat.le_refl _, fun i x hi => ?_⟩
  · obtain ⟨rfl, rfl⟩ := one_at ht
    exact ⟨wr.heap.size, 0, rfl, ⟨hg, by omega⟩, blk_cell y1 0⟩
  · obtain ⟨rfl, rfl⟩ := one_at hi
    exact ⟨wr.heap.size + 1, 0, ⟨kk, tt, .slice A1 n1 c1, .slice A2 n2 c2⟩, rfl, ⟨by omega, by omega⟩, blk_cell y2 0, blk_cell y2 1, blk_cell y2 2, blk_cell y2 3, hv.keep fun q hq => ⟨⟨hq.1, by omega⟩, (ff q (by omega)).trans (ho q hq.2)⟩⟩
theorem DeepI.lst {W wr : World} {g j : Nat} {kk : Int} {tt : ByteArray} {A1 A2 : Option Addr} {n1 c1 n2 c2 : Nat} (h : DeepI W g false j wr) (hx : wr.heap[g]? = some (.cells #[.int .i64 kk, .string tt, .slice A1 n1 c1, .slice A2 n2 c2] 25 (0, 0)))
    (hv : VAt wr (fun q => g < q ∧ q < wr.heap.size) (j + 1) ⟨kk, tt, .slice A1 n1 c1, .slice A2 n2 c2⟩ (deepJ false j)) : DeepI W g false (j + 1) (((((wr.alloc (Obj.cells #[.int .i64 kk, .string tt, .slice A1 n1 c1, .slice A2 n2 c2] 25)).setCell ⟨g, 0, none⟩ (.int .i64 6)).setCell ⟨g, 1, none⟩ (.string ⟨#[]⟩)).setCell ⟨g, 2, none⟩ (.slice none 0 0)).setCell ⟨g, 3, none⟩ (.slice (some ⟨wr.heap.size, 0, none⟩) 1 1)) := by
  have hg := blk_lt hx
  have x0 := blk_alloc hx (Obj.cells #[.int .i64 kk, .string tt, .slice A1 n1 c1, .slice A2 n2 c2] 25)
  have x2 := heap_alloc_new wr (Obj.cells #[.int .i64 kk, .string tt, .slice A1 n1 c1, .slice A2 n2 c2] 25)
  have hb : Below W.heap.size W (wr.alloc (Obj.cells #[.int .i64 kk, .string tt, .slice A1 n1 c1, .slice A2 n2 c2] 25)) := h.below.alloc h.below.size _
  have hs : (wr.alloc (Obj.cells #[.int .i64 kk, .string tt, .slice A1 n1 c1, .slice A2 n2 c2] 25)).heap.size = wr.heap.size + 1 := by rw [World.size_alloc]
  have ho : ∀ q, q < wr.heap.size → (wr.alloc (Obj.cells #[.int .i64 kk, .string tt, .slice A1 n1 c1, .slice A2 n2 c2] 25)).heap[q]? = wr.heap[q]? := fun q hq => Below.heap_alloc wr _ q hq
  generalize (wr.alloc (Obj.cells #[.int .i64 kk, .string tt, .slice A1 n1 c1, .slice A2 n2 c2] 25)) = w1 at *
  have hlow := h.low
  have ff : ∀ q, q ≠ g → ((((w1.setCell ⟨g, 0, none⟩ (.int .i64 6)).setCell ⟨g, 1, none⟩ (.string ⟨#[]⟩)).setCell ⟨g, 2, none⟩ (.slice none 0 0)).setCell ⟨g, 3, none⟩ (.slice (some ⟨wr.heap.size, 0, none⟩) 1 1)).heap[q]? = w1.heap[q]? := fun q hq =>
    (Below.heap_setCell _ _ _ q hq).trans ((Below.heap_setCell _ _ _ q hq).trans ((Below.heap_setCell _ _ _ q hq).trans (Below.heap_setCell _ _ _ q hq)))
  have fz : ((((w1.setCell ⟨g, 0, none⟩ (.int .i64 6)).setCell ⟨g, 1, none⟩ (.string ⟨#[]⟩)).setCell ⟨g, 2, none⟩ (.slice none 0 0)).setCell ⟨g, 3, none⟩ (.slice (some ⟨wr.heap.size, 0, none⟩) 1 1)).heap.size = w1.heap.size := by simp [World.setCell]
  have fb : Below W.heap.size W ((((w1.setCell ⟨g, 0, none⟩ (.int .i64 6)).setCell ⟨g, 1, none⟩ (.string ⟨#[]⟩)).setCell ⟨g, 2, none⟩ (.slice none 0 0)).setCell ⟨g, 3, none⟩ (.slice (some ⟨wr.heap.size, 0, none⟩) 1 1)) :=
    (((hb.setCell (p := ⟨g, 0, none⟩) hlow _).setCell (p := ⟨g, 1, none⟩) hlow _).setCell (p := ⟨g, 2, none⟩) hlow _).setCell (p := ⟨g, 3, none⟩) hlow _
  have fx := blk_set (blk_set (blk_set (blk_set x0 0 (.int .i64 6)) 1 (.string ⟨#[]⟩)) 2 (.slice none 0 0)) 3 (.slice (some ⟨wr.heap.size, 0, none⟩) 1 1)
  simp only [List.setIfInBounds_toArray, List.set_cons_zero, List.set_cons_succ] at fx
  generalize ((((w1.setCell ⟨g, 0, none⟩ (.int .i64 6)).setCell ⟨g, 1, none⟩ (.string ⟨#[]⟩)).setCell ⟨g, 2, none⟩ (.slice none 0 0)).setCell ⟨g, 3, none⟩ (.slice (some ⟨wr.heap.size, 0, none⟩) 1 1)) = w2 at *
  have y2 := (ff wr.heap.size (by omega)).trans x2
  refine ⟨fb, hlow, 6, ⟨#[]⟩, none, 0, 0, _, 1, 1, fx, rfl, rfl, ⟨none, 0, rfl, Nat.le_refl _, fun i t ht => by cases ht⟩, _, 1, rfl, Nat.le_refl _, fun i x hi => ?_⟩
  obtain ⟨rfl, rfl⟩ := one_at hi
  exact ⟨wr.heap.size, 0, ⟨kk, tt, .slice A1 n1 c1, .slice A2 n2 c2⟩, rfl, ⟨by omega, by omega⟩, blk_cell y2 0, blk_cell y2 1, blk_cell y2 2, blk_cell y2 3, hv.keep fun q hq => ⟨⟨hq.1, by omega⟩, (ff q (by omega)).trans (ho q hq.2)⟩⟩
set_option maxHeartbeats 4000000 in
set_option maxRecDepth 100000 in
theorem deep_walk (n : Nat) (hn : n ≤ 255) (o : Bool) {W : World} (hE : Env W) :
    Calls Tryd.prog 6 #[.int .u8 n, .bool o] W fun e w' => e = .returned (.bool true) ∧ Below W.heap.size W w' := by
  have HA := Lib.hid (fun W' (hb : Below W.heap.size W W') => answers_any (hE.on hb))
  have HE := Lib.hid hE
  have HB0 := Lib.hid (Below.refl W.heap.size W)
  have hrem : ((n : Nat) : Int).tmod 70 = ((n % 70 : Nat) : Int) := by rw [Int.tmod_eq_emod_of_nonneg (by omega)]; omega
  obtain ⟨k, hk⟩ : ∃ k, k = n % 70 := ⟨_, rfl⟩
  rw [← hk] at hrem
  have hk70 : k < 70 := by omega
  clear hE hk
  rcases Nat.eq_zero_or_pos k with rfl | hk0
  · go_enter Tryd.func6, Tryd.ntmps6
    go_wp2_with (first
      | (go_at_call 12; (with_reducible refine (HA.out _ HB0.out).mono ?_); rintro e' W1 ⟨rfl, hB1⟩; have HB1 := Lib.hid hB1; clear hB1)
      | (go_at_call 12; (with_reducible refine (HA.out _ HB1.out).mono ?_); rintro e' W2 ⟨rfl, hB2⟩; have HB2 := Lib.hid (HB1.out.trans (hB2.mono HB1.out.size)); clear hB2))
    go_ret
    exact ⟨rfl, HB2.out⟩
  have hk1 : ¬ (k : Int) = 0 := by omega
  have hk2 : ((k : Int) == 0) = false := by simpa using hk1
  go_enter Tryd.func6, Tryd.ntmps6
  go_wp2_with (go_at_call 12; (with_reducible refine (HA.out _ HB0.out).mono ?_); rintro e' W1 ⟨rfl, hB1⟩; have HB1 := Lib.hid hB1; clear hB1)
  have HD0 := Lib.hid (DeepI.start o HB1.out)
  generalize W1.heap.size = g at *
  generalize W1.alloc (Obj.cells #[.int .i64 6, .string ⟨#[]⟩, .slice none 0 0, .slice none 0 0] 25 (0, 0)) = W2 at *
  go_loopw [6, 8] (fun t i wr => ∃ (j : Nat) (T : ByteArray), t = .string T ∧ i = .int .i64 ((j : Int) + 1) ∧ j + 1 ≤ k ∧ T.size ≤ 5 * j ∧ Hid (T.data.toList = repL (opL o) j) ∧ Hid (DeepI W g o j wr)) (fun _ i _ => k - (RowKit.intOf i).toNat)
  case atStart => exact ⟨0, ⟨#[]⟩, rfl, rfl, by omega, by decide, Lib.hid rfl, HD0.out⟩
  case round =>
    obtain ⟨j, T, rfl, rfl, hj, hTs, HT, HD⟩ := hrel
    obtain ⟨kk, tt, A1, n1, c1, A2, n2, c2, hx, hv⟩ := HD.out.val
    have q0 : ∀ cs t, (wr.alloc (Obj.cells cs t)).cell? ⟨g, 0, none⟩ = some (.int .i64 kk) := fun cs t => blk_cell (blk_alloc hx _) 0
    have q1 : ∀ cs t, (wr.alloc (Obj.cells cs t)).cell? ⟨g, 1, none⟩ = some (.string tt) := fun cs t => blk_cell (blk_alloc hx _) 1
    have q2 : ∀ cs t, (wr.alloc (Obj.cells cs t)).cell? ⟨g, 2, none⟩ = some (.slice A1 n1 c1) := fun cs t => blk_cell (blk_alloc hx _) 2
    have q3 : ∀ cs t, (wr.alloc (Obj.cells cs t)).cell? ⟨g, 3, none⟩ = some (.slice A2 n2 c2) := fun cs t => blk_cell (blk_alloc hx _) 3
    have p0 : wr.cell? ⟨g, 0, none⟩ = some (.int .i64 kk) := blk_cell hx 0
    have p1 : wr.cell? ⟨g, 1, none⟩ = some (.string tt) := blk_cell hx 1
    have p2 : wr.cell? ⟨g, 2, none⟩ = some (.slice A1 n1 c1) := blk_cell hx 2
    have p3 : wr.cell? ⟨g, 3, none⟩ = some (.slice A2 n2 c2) := blk_cell hx 3
    have r0 : ∀ cs t cs' t', ((wr.alloc (Obj.cells cs t)).alloc (Obj.cells cs' t')).cell? ⟨g, 0, none⟩ = some (.int .i64 kk) := fun cs t cs' t' => blk_cell (blk_alloc (blk_alloc hx _) _) 0
    have r1 : ∀ cs t cs' t', ((wr.alloc (Obj.cells cs t)).alloc (Obj.cells cs' t')).cell? ⟨g, 1, none⟩ = some (.string tt) := fun cs t cs' t' => blk_cell (blk_alloc (blk_alloc hx _) _) 1
    have r2 : ∀ cs t cs' t', ((wr.alloc (Obj.cells cs t)).alloc (Obj.cells cs' t')).cell? ⟨g, 2, none⟩ = some (.slice A1 n1 c1) := fun cs t cs' t' => blk_cell (blk_alloc (blk_alloc hx _) _) 2
    have r3 : ∀ cs t cs' t', ((wr.alloc (Obj.cells cs t)).alloc (Obj.cells cs' t')).cell? ⟨g, 3, none⟩ = some (.slice A2 n2 c2) := fun cs t cs' t' => blk_cell (blk_alloc (blk_alloc hx _) _) 3
    have f0 : ∀ cs t, (wr.alloc (Obj.cells cs t)).frozen? ⟨g, 0, none⟩ = false := fun cs t => blk_frozen (blk_alloc hx _) 0
    have f1 : ∀ cs t, (wr.alloc (Obj.cells cs t)).frozen? ⟨g, 1, none⟩ = false := fun cs t => blk_frozen (blk_alloc hx _) 1
    have f2 : ∀ cs t, (wr.alloc (Obj.cells cs t)).frozen? ⟨g, 2, none⟩ = false := fun cs t => blk_frozen (blk_alloc hx _) 2
    have f3 : ∀ cs t, (wr.alloc (Obj.cells cs t)).frozen? ⟨g, 3, none⟩ = false := fun cs t => blk_frozen (blk_alloc hx _) 3
    have z0 : ∀ cs t cs' t', ((wr.alloc (Obj.cells cs t)).alloc (Obj.cells cs' t')).frozen? ⟨g, 0, none⟩ = false := fun cs t cs' t' => blk_frozen (blk_alloc (blk_alloc hx _) _) 0
    have z1 : ∀ cs t cs' t', ((wr.alloc (Obj.cells cs t)).alloc (Obj.cells cs' t')).frozen? ⟨g, 1, none⟩ = false := fun cs t cs' t' => blk_frozen (blk_alloc (blk_alloc hx _) _) 1
    have z2 : ∀ cs t cs' t', ((wr.alloc (Obj.cells cs t)).alloc (Obj.cells cs' t')).frozen? ⟨g, 2, none⟩ = false := fun cs t cs' t' => blk_frozen (blk_alloc (blk_alloc hx _) _) 2
    have z3 : ∀ cs t cs' t', ((wr.alloc (Obj.cells cs t)).alloc (Obj.cells cs' t')).frozen? ⟨g, 3, none⟩ = false := fun cs t cs' t' => blk_frozen (blk_alloc (blk_alloc hx _) _) 3
    have HX := Lib.hid hx
    have HV := Lib.hid hv
    have HG := Lib.hid (blk_lt hx)
    clear hx hv
    by_cases hlt : j + 1 < k
    · have hl : (j : Int) + 1 < (k : Int) := by omega
      have hw1 : IntKind.i64.wrap ((j : Int) + 1 + 1) = (j : Int) + 1 + 1 := IntWalk.i64_in _ (by omega)
      cases o with
      | true =>
        go_wp2_with fail
        exact ⟨⟨j + 1, _, rfl, by go_num, by omega, by rw [ByteArray.size_append, show (⟨#[123, 34, 97, 34, 58]⟩ : ByteArray).size = 5 from rfl]; omega, Lib.hid (by rw [Go.Joins.data_append, HT.out]; rfl), HD.out.obj HX.out HV.out⟩, by simp [RowKit.intOf]; omega⟩
      | false =>
        go_wp2_with fail
        exact ⟨⟨j + 1, _, rfl, by go_num, by omega, by rw [ByteArray.size_append, show (⟨#[91]⟩ : ByteArray).size = 1 from rfl]; omega, Lib.hid (by rw [Go.Joins.data_append, HT.out]; rfl), HD.out.lst HX.out HV.out⟩, by simp [RowKit.intOf]; omega⟩
    · have hl : ¬ (j : Int) + 1 < (k : Int) := by omega
      have HD2 := Lib.hid HD.out
      have HTL : Hid (T.size = j * (opL o).length) := Lib.hid (by rw [Lib.size_eq, HT.out, repL_len])
      clear q0 q1 q2 q3 p0 p1 p2 p3 r0 r1 r2 r3 f0 f1 f2 f3 z0 z1 z2 z3
      go_wp2_with fail
      go_loopw [6, 10] (fun t i w2 => ∃ (m : Nat) (T2 : ByteArray), t = .string T2 ∧ i = .int .i64 ((m : Int) + 1) ∧ m + 1 ≤ k ∧ T2.size ≤ 5 * k + 2 + m ∧ Hid (T2.data.toList = repL (opL o) j ++ ([91, 93] ++ repL (clL o) m)) ∧ Hid (w2 = wr)) (fun _ i _ => k - (RowKit.intOf i).toNat)
      case atStart => exact ⟨0, _, rfl, rfl, by omega, by rw [ByteArray.size_append, show (⟨#[91, 93]⟩ : ByteArray).size = 2 from rfl]; omega, Lib.hid (by rw [Go.Joins.data_append, HT.out]; rfl), Lib.hid rfl⟩
      case round =>
        obtain ⟨m, T2, rfl, rfl, hm, hT2s, HT2, HW2⟩ := hrel
        have hw2 := HW2.out
        subst hw2
        clear HW2
        by_cases hlt2 : m + 1 < k
        · have hl2 : (m : Int) + 1 < (k : Int) := by omega
          have hw1 : IntKind.i64.wrap ((m : Int) + 1 + 1) = (m : Int) + 1 + 1 := IntWalk.i64_in _ (by omega)
          cases o with
          | true =>
            go_wp2_with fail
            exact ⟨⟨m + 1, _, rfl, by go_num, by omega, by rw [ByteArray.size_append, show (⟨#[125]⟩ : ByteArray).size = 1 from rfl]; omega, Lib.hid (by rw [Go.Joins.data_append, HT2.out]; simp [repL, clL]), (by first | exact Lib.hid rfl | exact Lib.hid trivial)⟩, by simp [RowKit.intOf]; omega⟩
          | false =>
            go_wp2_with fail
            exact ⟨⟨m + 1, _, rfl, by go_num, by omega, by rw [ByteArray.size_append, show (⟨#[93]⟩ : ByteArray).size = 1 from rfl]; omega, Lib.hid (by rw [Go.Joins.data_append, HT2.out]; simp [repL, clL]), (by first | exact Lib.hid rfl | exact Lib.hid trivial)⟩, by simp [RowKit.intOf]; omega⟩
        · have hl2 : ¬ (m : Int) + 1 < (k : Int) := by omega
          obtain rfl : m = j := by omega
          have hTX : T2.data.toList = deepT o m := by rw [HT2.out]; rfl
          have HTX := Lib.hid hTX
          have hkm : k = m + 1 := by omega
          obtain ⟨Wa, ca, hca, hBa, hsa, hYa, hla, hma⟩ := conv_bytes wr T2 (by omega)
          have hbA : Below W.heap.size W Wa := HD.out.below.trans (hBa.mono HD.out.below.size)
          have hEa := HE.out.on hbA
          have hlen : T2.data.toList.length = T2.size := (Lib.size_eq _).symm
          have HBA := Lib.hid hbA
          have HXA := Lib.hid ((hBa.block _ HG.out).trans HX.out)
          have HVA := Lib.hid (HV.out.keep (F' := fun q => q < Wa.heap.size) fun q hq => ⟨Nat.lt_of_lt_of_le hq.2 hBa.size, hBa.block q hq.2⟩)
          rcases Nat.lt_or_ge m 32 with h32 | h32
          · have hP := parse_box (c := ca) (show parseN T2.data.toList = .ok (deepJ o m) by rw [hTX]; exact deep_yes o h32) hEa hYa (fun ad e => by cases e; show wr.heap.size < _; omega) (by omega) hma
            rw [hlen] at hP
            have HP := Lib.hid hP
            have hk32 : (k : Int) ≤ 32 := by omega
            have hT2 : T2 = ⟨(deepT o m).toArray⟩ := (Lib.mk_data T2).symm.trans (by rw [hTX])
            have HT2E := Lib.hid hT2
            clear hP hEa hYa hBa hbA hsa hla hma hlen hTX hT2
            go_wp2_with (first
              | (go_at_call 13; go_must ((with_reducible refine HP.out.mono ?_); rintro e' Wb ⟨k5, t5, P5, p5, q5, R5, r5, s5, F5, rfl, hb5, hV5, hF5⟩; have hb6 : Below Wb.heap.size Wb (Wb.alloc (Obj.cells #[.int .i64 k5, .string t5, .slice P5 p5 q5, .slice R5 r5 s5] 25 (0, 0))) := (by go_grown); have hx6 := heap_alloc_new Wb (Obj.cells #[.int .i64 k5, .string t5, .slice P5 p5 q5, .slice R5 r5 s5] 25 (0, 0)); have hx5 := blk_alloc ((hb5.block _ (blk_lt HXA.out)).trans HXA.out) (Obj.cells #[.int .i64 k5, .string t5, .slice P5 p5 q5, .slice R5 r5 s5] 25 (0, 0)); have v0 := blk_cell hx5 0; have v1 := blk_cell hx5 1; have v2 := blk_cell hx5 2; have v3 := blk_cell hx5 3; simp only [List.getElem?_toArray, List.getElem?_cons_zero, List.getElem?_cons_succ] at v0 v1 v2 v3; have ha6 := hb5.trans (hb6.mono hb5.size); have hs6 := HBA.out.trans (ha6.mono HBA.out.size); have HOW := Lib.hid (own_any (m + 1) (Wb.alloc (Obj.cells #[.int .i64 k5, .string t5, .slice P5 p5 q5, .slice R5 r5 s5] 25 (0, 0))) _ kk tt A1 A2 n1 c1 n2 c2 (deepJ o m) (HVA.out.keep (F' := fun q => q < (Wb.alloc (Obj.cells #[.int .i64 k5, .string t5, .slice P5 p5 q5, .slice R5 r5 s5] 25 (0, 0))).heap.size) fun q hq => ⟨Nat.lt_of_lt_of_le hq ha6.size, ha6.block q hq⟩) (fun q hq => hq) (sm_rm _ _ (deep_SM o _ (by decide) m _))); have HA6 := Lib.hid ha6; have HB6 := Lib.hid hs6; have HX5 := Lib.hid hx5; have HX6 := Lib.hid hx6; have HV5 := Lib.hid (hV5.keep (F' := fun q => q < (Wb.alloc (Obj.cells #[.int .i64 k5, .string t5, .slice P5 p5 q5, .slice R5 r5 s5] 25 (0, 0))).heap.size) fun q hq => ⟨Nat.lt_of_lt_of_le (hF5 q hq) hb6.size, hb6.block q (hF5 q hq)⟩); clear hb5 hV5 hF5 hb6 hx6 hx5 ha6 hs6))
              | (go_at_call 10; go_must ((with_reducible refine HOW.out.mono ?_); rintro e' Wc ⟨B1, b1, B2, b2, rfl, hbc, hvc⟩; have HB7 := Lib.hid (HB6.out.trans (hbc.mono HB6.out.size)); have HX7 := Lib.hid ((hbc.block _ (blk_lt HX5.out)).trans HX5.out); have HX8 := Lib.hid ((hbc.block _ (blk_lt HX6.out)).trans HX6.out); have HPR := Lib.hid (Print_any kk tt B1 B2 n1 b1 n2 b2 (deepJ o m) hvc (HE.out.on HB7.out) (fun q hq => hq.2) (deep_TM o m _)); have HBC := Lib.hid hbc; clear hbc hvc)))
            go_at_call 9
            refine HPR.out.mono ?_
            rintro e' Wd ⟨⟨hs, rfl⟩ | ⟨hs, hl', rfl⟩ | ⟨hs, hl', P, p, rfl, hYd, hbd, hlp, hmp⟩, hBd⟩
            · simp [deep_sound, h32] at hs
            · rw [deep_print o m _ (Nat.lt_succ_self m)] at hl'
              have := deepT_len o m
              omega
            · rw [deep_print o m _ (Nat.lt_succ_self m)] at hYd
              rw [deep_print o m _ (Nat.lt_succ_self m)]
              have HBd := Lib.hid (HB7.out.trans (hBd.mono HB7.out.size))
              have hxd := (hBd.block _ (blk_lt HX7.out)).trans HX7.out
              have hxe := (hBd.block _ (blk_lt HX8.out)).trans HX8.out
              have g0 := blk_cell hxd 0
              have g1 := blk_cell hxd 1
              have g2 := blk_cell hxd 2
              have g3 := blk_cell hxd 3
              have y0 := blk_cell hxe 0
              have y1 := blk_cell hxe 1
              have y2 := blk_cell hxe 2
              have y3 := blk_cell hxe 3
              simp only [List.getElem?_toArray, List.getElem?_cons_zero, List.getElem?_cons_succ] at g0 g1 g2 g3 y0 y1 y2 y3
              have hbe := HBC.out.trans (hBd.mono HBC.out.size)
              have hbf := HA6.out.trans (hbe.mono HA6.out.size)
              have HSM := Lib.hid (same_two (x := deepJ o m) (HVA.out.keep (F' := fun q => q < Wd.heap.size) fun q hq => ⟨Nat.lt_of_lt_of_le hq hbf.size, hbf.block q hq⟩) (HV5.out.keep (F' := fun q => q < Wd.heap.size) fun q hq => ⟨Nat.lt_of_lt_of_le hq hbe.size, hbe.block q hq⟩) (fun q hq => hq) (fun q hq => hq) (deep_SM o _ (by decide) m _))
              have HCV : Hid (∀ W', Below Wd.heap.size Wd W' → (convert 26 9 (.slice P (deepT o m).length p)).run Tryd.prog W' = .ok (.string T2) W') := fun W' hb => by
                have := conv_str (c := p) (bytes_on hYd (grew_of hb none) (fun _ _ => by simp))
                rw [← HT2E.out] at this
                exact this
              clear hs hl' hYd hbd hlp hmp hBd hxd hxe hbe hbf
              generalize (deepT o m).length = pl at *
              go_wp2_with (go_at_call 14; go_must ((with_reducible refine HSM.out.mono ?_); rintro e' We ⟨rfl, hbe⟩; have hcv := HCV.out We hbe; have HBe := Lib.hid (HBd.out.trans (hbe.mono HBd.out.size)); clear hbe))
              go_ret
              exact ⟨rfl, HBe.out⟩
          · have hP := parse_none (c := ca) (show parseN T2.data.toList = .error ((bif o then 160 else 32), 12) by rw [hTX]; exact deep_no o h32 (by omega)) hEa hYa (fun ad e => by cases e; show wr.heap.size < _; omega) (by omega) hma
            rw [hlen] at hP
            have HP := Lib.hid hP
            have hk32 : ¬ (k : Int) ≤ 32 := by omega
            have htl := HTL.out
            rw [opL_len] at htl
            have hsn : soundJ 32 (deepJ o m) = false := by rw [deep_sound]; exact decide_eq_false (by omega)
            have HSN := Lib.hid hsn
            clear hP hEa hYa hBa hbA hsa hla hma hlen hTX hsn
            cases o with
            | true =>
              simp only [cond_true] at htl HP
              have hw5 : ¬ ((T.size : Nat) : Int) < 160 := by omega
              clear htl
              go_wp2_with (first
                | (go_at_call 13; go_must ((with_reducible refine HP.out.mono ?_); rintro e' Wb ⟨rfl, hb5⟩; have hb6 : Below Wb.heap.size Wb (Wb.alloc (Obj.cells #[.int .i64 0, .string ⟨#[]⟩, .slice none 0 0, .slice none 0 0] 25 (0, 0))) := (by go_grown); have hx6 := heap_alloc_new Wb (Obj.cells #[.int .i64 0, .string ⟨#[]⟩, .slice none 0 0, .slice none 0 0] 25 (0, 0)); have hx5 := blk_alloc ((hb5.block _ (blk_lt HXA.out)).trans HXA.out) (Obj.cells #[.int .i64 0, .string ⟨#[]⟩, .slice none 0 0, .slice none 0 0] 25 (0, 0)); have v0 := blk_cell hx5 0; have v1 := blk_cell hx5 1; have v2 := blk_cell hx5 2; have v3 := blk_cell hx5 3; simp only [List.getElem?_toArray, List.getElem?_cons_zero, List.getElem?_cons_succ] at v0 v1 v2 v3; have ha6 := hb5.trans (hb6.mono hb5.size); have hs6 := HBA.out.trans (ha6.mono HBA.out.size); have HOW := Lib.hid (own_any (m + 1) (Wb.alloc (Obj.cells #[.int .i64 0, .string ⟨#[]⟩, .slice none 0 0, .slice none 0 0] 25 (0, 0))) _ kk tt A1 A2 n1 c1 n2 c2 (deepJ _ m) (HVA.out.keep (F' := fun q => q < (Wb.alloc (Obj.cells #[.int .i64 0, .string ⟨#[]⟩, .slice none 0 0, .slice none 0 0] 25 (0, 0))).heap.size) fun q hq => ⟨Nat.lt_of_lt_of_le hq ha6.size, ha6.block q hq⟩) (fun q hq => hq) (sm_rm _ _ (deep_SM _ _ (by decide) m _))); have HA6 := Lib.hid ha6; have HB6 := Lib.hid hs6; have HX5 := Lib.hid hx5; have HX6 := Lib.hid hx6; clear hb5 hb6 hx6 hx5 ha6 hs6))
                | (go_at_call 10; go_must ((with_reducible refine HOW.out.mono ?_); rintro e' Wc ⟨B1, b1, B2, b2, rfl, hbc, hvc⟩; have HB7 := Lib.hid (HB6.out.trans (hbc.mono HB6.out.size)); have HX7 := Lib.hid ((hbc.block _ (blk_lt HX5.out)).trans HX5.out); have HX8 := Lib.hid ((hbc.block _ (blk_lt HX6.out)).trans HX6.out); have HPR := Lib.hid (Print_any kk tt B1 B2 n1 b1 n2 b2 (deepJ _ m) hvc (HE.out.on HB7.out) (fun q hq => hq.2) (deep_TM _ m _)); have HBC := Lib.hid hbc; clear hbc hvc))
                | (go_at_call 9; go_must ((with_reducible refine HPR.out.mono ?_); rintro e' Wd ⟨⟨hs, rfl⟩ | ⟨hs, -, -⟩ | ⟨hs, -⟩, hBd⟩; rotate_left; (rw [HSN.out] at hs; cases hs); (rw [HSN.out] at hs; cases hs); have HBd := Lib.hid (HB7.out.trans (hBd.mono HB7.out.size)); clear hs hBd)))
              go_ret
              exact ⟨rfl, HBd.out⟩
            | false =>
              simp only [cond_false] at htl HP
              have hw5 : ¬ ((T.size : Nat) : Int) < 32 := by omega
              clear htl
              go_wp2_with (first
                | (go_at_call 13; go_must ((with_reducible refine HP.out.mono ?_); rintro e' Wb ⟨rfl, hb5⟩; have hb6 : Below Wb.heap.size Wb (Wb.alloc (Obj.cells #[.int .i64 0, .string ⟨#[]⟩, .slice none 0 0, .slice none 0 0] 25 (0, 0))) := (by go_grown); have hx6 := heap_alloc_new Wb (Obj.cells #[.int .i64 0, .string ⟨#[]⟩, .slice none 0 0, .slice none 0 0] 25 (0, 0)); have hx5 := blk_alloc ((hb5.block _ (blk_lt HXA.out)).trans HXA.out) (Obj.cells #[.int .i64 0, .string ⟨#[]⟩, .slice none 0 0, .slice none 0 0] 25 (0, 0)); have v0 := blk_cell hx5 0; have v1 := blk_cell hx5 1; have v2 := blk_cell hx5 2; have v3 := blk_cell hx5 3; simp only [List.getElem?_toArray, List.getElem?_cons_zero, List.getElem?_cons_succ] at v0 v1 v2 v3; have ha6 := hb5.trans (hb6.mono hb5.size); have hs6 := HBA.out.trans (ha6.mono HBA.out.size); have HOW := Lib.hid (own_any (m + 1) (Wb.alloc (Obj.cells #[.int .i64 0, .string ⟨#[]⟩, .slice none 0 0, .slice none 0 0] 25 (0, 0))) _ kk tt A1 A2 n1 c1 n2 c2 (deepJ _ m) (HVA.out.keep (F' := fun q => q < (Wb.alloc (Obj.cells #[.int .i64 0, .string ⟨#[]⟩, .slice none 0 0, .slice none 0 0] 25 (0, 0))).heap.size) fun q hq => ⟨Nat.lt_of_lt_of_le hq ha6.size, ha6.block q hq⟩) (fun q hq => hq) (sm_rm _ _ (deep_SM _ _ (by decide) m _))); have HA6 := Lib.hid ha6; have HB6 := Lib.hid hs6; have HX5 := Lib.hid hx5; have HX6 := Lib.hid hx6; clear hb5 hb6 hx6 hx5 ha6 hs6))
                | (go_at_call 10; go_must ((with_reducible refine HOW.out.mono ?_); rintro e' Wc ⟨B1, b1, B2, b2, rfl, hbc, hvc⟩; have HB7 := Lib.hid (HB6.out.trans (hbc.mono HB6.out.size)); have HX7 := Lib.hid ((hbc.block _ (blk_lt HX5.out)).trans HX5.out); have HX8 := Lib.hid ((hbc.block _ (blk_lt HX6.out)).trans HX6.out); have HPR := Lib.hid (Print_any kk tt B1 B2 n1 b1 n2 b2 (deepJ _ m) hvc (HE.out.on HB7.out) (fun q hq => hq.2) (deep_TM _ m _)); have HBC := Lib.hid hbc; clear hbc hvc))
                | (go_at_call 9; go_must ((with_reducible refine HPR.out.mono ?_); rintro e' Wd ⟨⟨hs, rfl⟩ | ⟨hs, -, -⟩ | ⟨hs, -⟩, hBd⟩; rotate_left; (rw [HSN.out] at hs; cases hs); (rw [HSN.out] at hs; cases hs); have HBd := Lib.hid (HB7.out.trans (hBd.mono HB7.out.size)); clear hs hBd)))
              go_ret
              exact ⟨rfl, HBd.out⟩
end Go.Proofs.YtmjooghfghmngaaDoor
