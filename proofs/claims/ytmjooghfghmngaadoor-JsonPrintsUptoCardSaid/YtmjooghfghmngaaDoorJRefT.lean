/- The document's Sound: the same as the printer's. -/
import Derived.Test.YtmjooghfghmngaaDoorJSnd
import Derived.Test.YtmjooghfghmngaaDoorJSiz
import Derived.Test.YtmjooghfghmngaaDoorJRefU
import Derived.Test.YtmjooghfghmngaaDoorJBck
namespace Go.Proofs.YtmjooghfghmngaaDoor
open Go.RowKit Go.Shelf Go.Lib
set_option maxHeartbeats 2000000 in
set_option maxRecDepth 100000 in
theorem rs_low {W : World} (k : Int) (t : ByteArray) (A1 A2 : Option Addr) (a c1 b c2 : Nat) (ht : t.size ≤ 2097152) (nn : Int) (hk : k < 1) :
    Calls Tryd.prog 19 #[.agg #[.int .i64 k, .string t, .slice A1 a c1, .slice A2 b c2], .int .i64 nn] W fun e w' => e = .returned (.bool false) ∧ Below W.heap.size W w' := by
  have hB1 : Below W.heap.size W (W.alloc (Obj.cells #[.int .i64 k, .string t, .slice A1 a c1, .slice A2 b c2] 25)) := by go_grown
  have h0 := heap_alloc_new W (Obj.cells #[.int .i64 k, .string t, .slice A1 a c1, .slice A2 b c2] 25)
  have HX := Lib.hid (fun W' (hb : Below (W.alloc (Obj.cells #[.int .i64 k, .string t, .slice A1 a c1, .slice A2 b c2] 25)).heap.size (W.alloc (Obj.cells #[.int .i64 k, .string t, .slice A1 a c1, .slice A2 b c2] 25)) W') => (hb.block _ (blk_lt h0)).trans h0)
  have hU := ref_UTF8 t (W.alloc (Obj.cells #[.int .i64 k, .string t, .slice A1 a c1, .slice A2 b c2] 25)) (by omega)
  have HB1 := Lib.hid hB1
  clear hU HX h0 hB1
  go_enter Tryd.func19, Tryd.ntmps19
  go_wp2_with fail
  go_ret
  exact ⟨rfl, HB1.out⟩
set_option maxHeartbeats 2000000 in
set_option maxRecDepth 100000 in
theorem rs_high {W : World} (k : Int) (t : ByteArray) (A1 A2 : Option Addr) (a c1 b c2 : Nat) (ht : t.size ≤ 2097152) (nn : Int) (hk : 7 < k) :
    Calls Tryd.prog 19 #[.agg #[.int .i64 k, .string t, .slice A1 a c1, .slice A2 b c2], .int .i64 nn] W fun e w' => e = .returned (.bool false) ∧ Below W.heap.size W w' := by
  have hk1 : ¬ k < 1 := by omega
  have hB1 : Below W.heap.size W (W.alloc (Obj.cells #[.int .i64 k, .string t, .slice A1 a c1, .slice A2 b c2] 25)) := by go_grown
  have h0 := heap_alloc_new W (Obj.cells #[.int .i64 k, .string t, .slice A1 a c1, .slice A2 b c2] 25)
  have HX := Lib.hid (fun W' (hb : Below (W.alloc (Obj.cells #[.int .i64 k, .string t, .slice A1 a c1, .slice A2 b c2] 25)).heap.size (W.alloc (Obj.cells #[.int .i64 k, .string t, .slice A1 a c1, .slice A2 b c2] 25)) W') => (hb.block _ (blk_lt h0)).trans h0)
  have hU := ref_UTF8 t (W.alloc (Obj.cells #[.int .i64 k, .string t, .slice A1 a c1, .slice A2 b c2] 25)) (by omega)
  have HB1 := Lib.hid hB1
  clear hU HX h0 hB1
  go_enter Tryd.func19, Tryd.ntmps19
  go_wp2_with fail
  go_ret
  exact ⟨rfl, HB1.out⟩
set_option maxHeartbeats 2000000 in
set_option maxRecDepth 100000 in
theorem rs_bad {W : World} (k : Int) (t : ByteArray) (A1 A2 : Option Addr) (a c1 b c2 : Nat) (ht : t.size ≤ 2097152) (nn : Int) (hk1 : ¬ k < 1) (hk7 : ¬ 7 < k) (hv : Lib.validD t.data.toList = false) :
    Calls Tryd.prog 19 #[.agg #[.int .i64 k, .string t, .slice A1 a c1, .slice A2 b c2], .int .i64 nn] W fun e w' => e = .returned (.bool false) ∧ Below W.heap.size W w' := by
  have hB1 : Below W.heap.size W (W.alloc (Obj.cells #[.int .i64 k, .string t, .slice A1 a c1, .slice A2 b c2] 25)) := by go_grown
  have h0 := heap_alloc_new W (Obj.cells #[.int .i64 k, .string t, .slice A1 a c1, .slice A2 b c2] 25)
  have HX := Lib.hid (fun W' (hb : Below (W.alloc (Obj.cells #[.int .i64 k, .string t, .slice A1 a c1, .slice A2 b c2] 25)).heap.size (W.alloc (Obj.cells #[.int .i64 k, .string t, .slice A1 a c1, .slice A2 b c2] 25)) W') => (hb.block _ (blk_lt h0)).trans h0)
  have hU := ref_UTF8 t (W.alloc (Obj.cells #[.int .i64 k, .string t, .slice A1 a c1, .slice A2 b c2] 25)) (by omega)
  have HB1 := Lib.hid hB1
  rw [hv] at hU
  have HU := Lib.hid hU
  clear hU h0 hB1 hv
  go_enter Tryd.func19, Tryd.ntmps19
  go_wp2_with (go_at_call 15; (with_reducible refine HU.out.mono ?_); rintro e' w2 ⟨rfl, hb2⟩; have hbk := HX.out _ hb2; have q0 : w2.cell? ⟨W.heap.size, 0, none⟩ = some (.int .i64 k) := blk_cell hbk 0; have q1 : w2.cell? ⟨W.heap.size, 1, none⟩ = some (.string t) := blk_cell hbk 1; have q2 : w2.cell? ⟨W.heap.size, 2, none⟩ = some (.slice A1 a c1) := blk_cell hbk 2; have q3 : w2.cell? ⟨W.heap.size, 3, none⟩ = some (.slice A2 b c2) := blk_cell hbk 3; have HB2 := Lib.hid (HB1.out.trans (hb2.mono HB1.out.size)); clear hb2 hbk)
  go_ret
  exact ⟨rfl, HB2.out⟩
set_option maxHeartbeats 2000000 in
set_option maxRecDepth 100000 in
theorem rs_text1 {W : World} (t : ByteArray) (A1 A2 : Option Addr) (a c1 b c2 : Nat) (ht : t.size ≤ 2097152) (nn : Int) (hv : Lib.validD t.data.toList = true) (hz : t.toList.isEmpty = false) :
    Calls Tryd.prog 19 #[.agg #[.int .i64 1, .string t, .slice A1 a c1, .slice A2 b c2], .int .i64 nn] W fun e w' => e = .returned (.bool false) ∧ Below W.heap.size W w' := by
  have hB1 : Below W.heap.size W (W.alloc (Obj.cells #[.int .i64 1, .string t, .slice A1 a c1, .slice A2 b c2] 25)) := by go_grown
  have h0 := heap_alloc_new W (Obj.cells #[.int .i64 1, .string t, .slice A1 a c1, .slice A2 b c2] 25)
  have HX := Lib.hid (fun W' (hb : Below (W.alloc (Obj.cells #[.int .i64 1, .string t, .slice A1 a c1, .slice A2 b c2] 25)).heap.size (W.alloc (Obj.cells #[.int .i64 1, .string t, .slice A1 a c1, .slice A2 b c2] 25)) W') => (hb.block _ (blk_lt h0)).trans h0)
  have hU := ref_UTF8 t (W.alloc (Obj.cells #[.int .i64 1, .string t, .slice A1 a c1, .slice A2 b c2] 25)) (by omega)
  have HB1 := Lib.hid hB1
  rw [hv] at hU
  have HU := Lib.hid hU
  clear hU h0 hB1 hv
  go_enter Tryd.func19, Tryd.ntmps19
  go_wp2_with (go_at_call 15; (with_reducible refine HU.out.mono ?_); rintro e' w2 ⟨rfl, hb2⟩; have hbk := HX.out _ hb2; have q0 : w2.cell? ⟨W.heap.size, 0, none⟩ = some (.int .i64 1) := blk_cell hbk 0; have q1 : w2.cell? ⟨W.heap.size, 1, none⟩ = some (.string t) := blk_cell hbk 1; have q2 : w2.cell? ⟨W.heap.size, 2, none⟩ = some (.slice A1 a c1) := blk_cell hbk 2; have q3 : w2.cell? ⟨W.heap.size, 3, none⟩ = some (.slice A2 b c2) := blk_cell hbk 3; have HB2 := Lib.hid (HB1.out.trans (hb2.mono HB1.out.size)); clear hb2 hbk)
  go_ret
  exact ⟨rfl, HB2.out⟩
set_option maxHeartbeats 2000000 in
set_option maxRecDepth 100000 in
theorem rs_text2 {W : World} (t : ByteArray) (A1 A2 : Option Addr) (a c1 b c2 : Nat) (ht : t.size ≤ 2097152) (nn : Int) (hv : Lib.validD t.data.toList = true) (hz : t.toList.isEmpty = false) :
    Calls Tryd.prog 19 #[.agg #[.int .i64 2, .string t, .slice A1 a c1, .slice A2 b c2], .int .i64 nn] W fun e w' => e = .returned (.bool false) ∧ Below W.heap.size W w' := by
  have hB1 : Below W.heap.size W (W.alloc (Obj.cells #[.int .i64 2, .string t, .slice A1 a c1, .slice A2 b c2] 25)) := by go_grown
  have h0 := heap_alloc_new W (Obj.cells #[.int .i64 2, .string t, .slice A1 a c1, .slice A2 b c2] 25)
  have HX := Lib.hid (fun W' (hb : Below (W.alloc (Obj.cells #[.int .i64 2, .string t, .slice A1 a c1, .slice A2 b c2] 25)).heap.size (W.alloc (Obj.cells #[.int .i64 2, .string t, .slice A1 a c1, .slice A2 b c2] 25)) W') => (hb.block _ (blk_lt h0)).trans h0)
  have hU := ref_UTF8 t (W.alloc (Obj.cells #[.int .i64 2, .string t, .slice A1 a c1, .slice A2 b c2] 25)) (by omega)
  have HB1 := Lib.hid hB1
  rw [hv] at hU
  have HU := Lib.hid hU
  clear hU h0 hB1 hv
  go_enter Tryd.func19, Tryd.ntmps19
  go_wp2_with (go_at_call 15; (with_reducible refine HU.out.mono ?_); rintro e' w2 ⟨rfl, hb2⟩; have hbk := HX.out _ hb2; have q0 : w2.cell? ⟨W.heap.size, 0, none⟩ = some (.int .i64 2) := blk_cell hbk 0; have q1 : w2.cell? ⟨W.heap.size, 1, none⟩ = some (.string t) := blk_cell hbk 1; have q2 : w2.cell? ⟨W.heap.size, 2, none⟩ = some (.slice A1 a c1) := blk_cell hbk 2; have q3 : w2.cell? ⟨W.heap.size, 3, none⟩ = some (.slice A2 b c2) := blk_cell hbk 3; have HB2 := Lib.hid (HB1.out.trans (hb2.mono HB1.out.size)); clear hb2 hbk)
  go_ret
  exact ⟨rfl, HB2.out⟩
set_option maxHeartbeats 2000000 in
set_option maxRecDepth 100000 in
theorem rs_text3 {W : World} (t : ByteArray) (A1 A2 : Option Addr) (a c1 b c2 : Nat) (ht : t.size ≤ 2097152) (nn : Int) (hv : Lib.validD t.data.toList = true) (hz : t.toList.isEmpty = false) :
    Calls Tryd.prog 19 #[.agg #[.int .i64 3, .string t, .slice A1 a c1, .slice A2 b c2], .int .i64 nn] W fun e w' => e = .returned (.bool false) ∧ Below W.heap.size W w' := by
  have hB1 : Below W.heap.size W (W.alloc (Obj.cells #[.int .i64 3, .string t, .slice A1 a c1, .slice A2 b c2] 25)) := by go_grown
  have h0 := heap_alloc_new W (Obj.cells #[.int .i64 3, .string t, .slice A1 a c1, .slice A2 b c2] 25)
  have HX := Lib.hid (fun W' (hb : Below (W.alloc (Obj.cells #[.int .i64 3, .string t, .slice A1 a c1, .slice A2 b c2] 25)).heap.size (W.alloc (Obj.cells #[.int .i64 3, .string t, .slice A1 a c1, .slice A2 b c2] 25)) W') => (hb.block _ (blk_lt h0)).trans h0)
  have hU := ref_UTF8 t (W.alloc (Obj.cells #[.int .i64 3, .string t, .slice A1 a c1, .slice A2 b c2] 25)) (by omega)
  have HB1 := Lib.hid hB1
  rw [hv] at hU
  have HU := Lib.hid hU
  clear hU h0 hB1 hv
  go_enter Tryd.func19, Tryd.ntmps19
  go_wp2_with (go_at_call 15; (with_reducible refine HU.out.mono ?_); rintro e' w2 ⟨rfl, hb2⟩; have hbk := HX.out _ hb2; have q0 : w2.cell? ⟨W.heap.size, 0, none⟩ = some (.int .i64 3) := blk_cell hbk 0; have q1 : w2.cell? ⟨W.heap.size, 1, none⟩ = some (.string t) := blk_cell hbk 1; have q2 : w2.cell? ⟨W.heap.size, 2, none⟩ = some (.slice A1 a c1) := blk_cell hbk 2; have q3 : w2.cell? ⟨W.heap.size, 3, none⟩ = some (.slice A2 b c2) := blk_cell hbk 3; have HB2 := Lib.hid (HB1.out.trans (hb2.mono HB1.out.size)); clear hb2 hbk)
  go_ret
  exact ⟨rfl, HB2.out⟩
set_option maxHeartbeats 2000000 in
set_option maxRecDepth 100000 in
theorem rs_text6 {W : World} (t : ByteArray) (A1 A2 : Option Addr) (a c1 b c2 : Nat) (ht : t.size ≤ 2097152) (nn : Int) (hv : Lib.validD t.data.toList = true) (hz : t.toList.isEmpty = false) :
    Calls Tryd.prog 19 #[.agg #[.int .i64 6, .string t, .slice A1 a c1, .slice A2 b c2], .int .i64 nn] W fun e w' => e = .returned (.bool false) ∧ Below W.heap.size W w' := by
  have hB1 : Below W.heap.size W (W.alloc (Obj.cells #[.int .i64 6, .string t, .slice A1 a c1, .slice A2 b c2] 25)) := by go_grown
  have h0 := heap_alloc_new W (Obj.cells #[.int .i64 6, .string t, .slice A1 a c1, .slice A2 b c2] 25)
  have HX := Lib.hid (fun W' (hb : Below (W.alloc (Obj.cells #[.int .i64 6, .string t, .slice A1 a c1, .slice A2 b c2] 25)).heap.size (W.alloc (Obj.cells #[.int .i64 6, .string t, .slice A1 a c1, .slice A2 b c2] 25)) W') => (hb.block _ (blk_lt h0)).trans h0)
  have hU := ref_UTF8 t (W.alloc (Obj.cells #[.int .i64 6, .string t, .slice A1 a c1, .slice A2 b c2] 25)) (by omega)
  have HB1 := Lib.hid hB1
  rw [hv] at hU
  have HU := Lib.hid hU
  clear hU h0 hB1 hv
  go_enter Tryd.func19, Tryd.ntmps19
  go_wp2_with (go_at_call 15; (with_reducible refine HU.out.mono ?_); rintro e' w2 ⟨rfl, hb2⟩; have hbk := HX.out _ hb2; have q0 : w2.cell? ⟨W.heap.size, 0, none⟩ = some (.int .i64 6) := blk_cell hbk 0; have q1 : w2.cell? ⟨W.heap.size, 1, none⟩ = some (.string t) := blk_cell hbk 1; have q2 : w2.cell? ⟨W.heap.size, 2, none⟩ = some (.slice A1 a c1) := blk_cell hbk 2; have q3 : w2.cell? ⟨W.heap.size, 3, none⟩ = some (.slice A2 b c2) := blk_cell hbk 3; have HB2 := Lib.hid (HB1.out.trans (hb2.mono HB1.out.size)); clear hb2 hbk)
  go_ret
  exact ⟨rfl, HB2.out⟩
set_option maxHeartbeats 2000000 in
set_option maxRecDepth 100000 in
theorem rs_text7 {W : World} (t : ByteArray) (A1 A2 : Option Addr) (a c1 b c2 : Nat) (ht : t.size ≤ 2097152) (nn : Int) (hv : Lib.validD t.data.toList = true) (hz : t.toList.isEmpty = false) :
    Calls Tryd.prog 19 #[.agg #[.int .i64 7, .string t, .slice A1 a c1, .slice A2 b c2], .int .i64 nn] W fun e w' => e = .returned (.bool false) ∧ Below W.heap.size W w' := by
  have hB1 : Below W.heap.size W (W.alloc (Obj.cells #[.int .i64 7, .string t, .slice A1 a c1, .slice A2 b c2] 25)) := by go_grown
  have h0 := heap_alloc_new W (Obj.cells #[.int .i64 7, .string t, .slice A1 a c1, .slice A2 b c2] 25)
  have HX := Lib.hid (fun W' (hb : Below (W.alloc (Obj.cells #[.int .i64 7, .string t, .slice A1 a c1, .slice A2 b c2] 25)).heap.size (W.alloc (Obj.cells #[.int .i64 7, .string t, .slice A1 a c1, .slice A2 b c2] 25)) W') => (hb.block _ (blk_lt h0)).trans h0)
  have hU := ref_UTF8 t (W.alloc (Obj.cells #[.int .i64 7, .string t, .slice A1 a c1, .slice A2 b c2] 25)) (by omega)
  have HB1 := Lib.hid hB1
  rw [hv] at hU
  have HU := Lib.hid hU
  clear hU h0 hB1 hv
  go_enter Tryd.func19, Tryd.ntmps19
  go_wp2_with (go_at_call 15; (with_reducible refine HU.out.mono ?_); rintro e' w2 ⟨rfl, hb2⟩; have hbk := HX.out _ hb2; have q0 : w2.cell? ⟨W.heap.size, 0, none⟩ = some (.int .i64 7) := blk_cell hbk 0; have q1 : w2.cell? ⟨W.heap.size, 1, none⟩ = some (.string t) := blk_cell hbk 1; have q2 : w2.cell? ⟨W.heap.size, 2, none⟩ = some (.slice A1 a c1) := blk_cell hbk 2; have q3 : w2.cell? ⟨W.heap.size, 3, none⟩ = some (.slice A2 b c2) := blk_cell hbk 3; have HB2 := Lib.hid (HB1.out.trans (hb2.mono HB1.out.size)); clear hb2 hbk)
  go_ret
  exact ⟨rfl, HB2.out⟩
set_option maxHeartbeats 2000000 in
set_option maxRecDepth 100000 in
theorem rs_num_no {W : World} (t : ByteArray) (A1 A2 : Option Addr) (a c1 b c2 : Nat) (ht : t.size ≤ 2097152) (nn : Int) (hv : Lib.validD t.data.toList = true) (hm : numB t.data.toList = false) :
    Calls Tryd.prog 19 #[.agg #[.int .i64 4, .string t, .slice A1 a c1, .slice A2 b c2], .int .i64 nn] W fun e w' => e = .returned (.bool false) ∧ Below W.heap.size W w' := by
  have hB1 : Below W.heap.size W (W.alloc (Obj.cells #[.int .i64 4, .string t, .slice A1 a c1, .slice A2 b c2] 25)) := by go_grown
  have h0 := heap_alloc_new W (Obj.cells #[.int .i64 4, .string t, .slice A1 a c1, .slice A2 b c2] 25)
  have HX := Lib.hid (fun W' (hb : Below (W.alloc (Obj.cells #[.int .i64 4, .string t, .slice A1 a c1, .slice A2 b c2] 25)).heap.size (W.alloc (Obj.cells #[.int .i64 4, .string t, .slice A1 a c1, .slice A2 b c2] 25)) W') => (hb.block _ (blk_lt h0)).trans h0)
  have hU := ref_UTF8 t (W.alloc (Obj.cells #[.int .i64 4, .string t, .slice A1 a c1, .slice A2 b c2] 25)) (by omega)
  have HB1 := Lib.hid hB1
  rw [hv] at hU
  have HU := Lib.hid hU
  clear hU h0 hB1 hv
  have HVM := Lib.hid hm
  clear hm
  go_enter Tryd.func19, Tryd.ntmps19
  go_wp2_with (first
    | (go_at_call 15; (with_reducible refine HU.out.mono ?_); rintro e' w2 ⟨rfl, hb2⟩; have hbk := HX.out _ hb2; have q0 : w2.cell? ⟨W.heap.size, 0, none⟩ = some (.int .i64 4) := blk_cell hbk 0; have q1 : w2.cell? ⟨W.heap.size, 1, none⟩ = some (.string t) := blk_cell hbk 1; have q2 : w2.cell? ⟨W.heap.size, 2, none⟩ = some (.slice A1 a c1) := blk_cell hbk 2; have q3 : w2.cell? ⟨W.heap.size, 3, none⟩ = some (.slice A2 b c2) := blk_cell hbk 3; have HB2 := Lib.hid (HB1.out.trans (hb2.mono HB1.out.size)); obtain ⟨Wa, ca, hca, hBa, hsa, hYa, hla, hma⟩ := conv_bytes w2 t (by omega); have hbka := (hBa.block _ (blk_lt hbk)).trans hbk; have r0 : Wa.cell? ⟨W.heap.size, 0, none⟩ = some (.int .i64 4) := blk_cell hbka 0; have r1 : Wa.cell? ⟨W.heap.size, 1, none⟩ = some (.string t) := blk_cell hbka 1; have r2 : Wa.cell? ⟨W.heap.size, 2, none⟩ = some (.slice A1 a c1) := blk_cell hbka 2; have r3 : Wa.cell? ⟨W.heap.size, 3, none⟩ = some (.slice A2 b c2) := blk_cell hbka 3; have hN := ref_Number (c := ca) hYa (by rw [← Lib.size_eq]; omega); rw [show t.data.toList.length = t.size from (Lib.size_eq t).symm, num_eq, HVM.out] at hN; have HN := Lib.hid hN; have HBA := Lib.hid (HB2.out.trans (hBa.mono HB2.out.size)); clear hBa hsa hYa hla hma hbka hN; clear hb2 hbk)
    | (go_at_call 16; (with_reducible refine HN.out.mono ?_); rintro e' wz ⟨rfl, hwz⟩; have hwz := hwz.symm; subst hwz))
  go_ret
  exact ⟨rfl, HBA.out⟩
set_option maxHeartbeats 2000000 in
set_option maxRecDepth 100000 in
theorem rs_num {W : World} (t : ByteArray) (A1 A2 : Option Addr) (a c1 b c2 : Nat) (ht : t.size ≤ 2097152) (nn : Int) (hv : Lib.validD t.data.toList = true) (hm : numB t.data.toList = true) :
    Calls Tryd.prog 19 #[.agg #[.int .i64 4, .string t, .slice A1 a c1, .slice A2 b c2], .int .i64 nn] W fun e w' => e = .returned (.bool (a == 0 && b == 0)) ∧ Below W.heap.size W w' := by
  by_cases ha : a = 0
  · have z1 : ((a : Int) == 0) = true := by simp [ha]
    by_cases hb : b = 0
    · have z2 : ((b : Int) == 0) = true := by simp [hb]
      have z3 : (a == 0 && b == 0) = true := by simp [ha, hb]
      rw [z3]
      clear z3 ha hb
      have hB1 : Below W.heap.size W (W.alloc (Obj.cells #[.int .i64 4, .string t, .slice A1 a c1, .slice A2 b c2] 25)) := by go_grown
      have h0 := heap_alloc_new W (Obj.cells #[.int .i64 4, .string t, .slice A1 a c1, .slice A2 b c2] 25)
      have HX := Lib.hid (fun W' (hb : Below (W.alloc (Obj.cells #[.int .i64 4, .string t, .slice A1 a c1, .slice A2 b c2] 25)).heap.size (W.alloc (Obj.cells #[.int .i64 4, .string t, .slice A1 a c1, .slice A2 b c2] 25)) W') => (hb.block _ (blk_lt h0)).trans h0)
      have hU := ref_UTF8 t (W.alloc (Obj.cells #[.int .i64 4, .string t, .slice A1 a c1, .slice A2 b c2] 25)) (by omega)
      have HB1 := Lib.hid hB1
      rw [hv] at hU
      have HU := Lib.hid hU
      clear hU h0 hB1 hv
      have HVM := Lib.hid hm
      clear hm
      go_enter Tryd.func19, Tryd.ntmps19
      go_wp2_with (first
        | (go_at_call 15; (with_reducible refine HU.out.mono ?_); rintro e' w2 ⟨rfl, hb2⟩; have hbk := HX.out _ hb2; have q0 : w2.cell? ⟨W.heap.size, 0, none⟩ = some (.int .i64 4) := blk_cell hbk 0; have q1 : w2.cell? ⟨W.heap.size, 1, none⟩ = some (.string t) := blk_cell hbk 1; have q2 : w2.cell? ⟨W.heap.size, 2, none⟩ = some (.slice A1 a c1) := blk_cell hbk 2; have q3 : w2.cell? ⟨W.heap.size, 3, none⟩ = some (.slice A2 b c2) := blk_cell hbk 3; have HB2 := Lib.hid (HB1.out.trans (hb2.mono HB1.out.size)); obtain ⟨Wa, ca, hca, hBa, hsa, hYa, hla, hma⟩ := conv_bytes w2 t (by omega); have hbka := (hBa.block _ (blk_lt hbk)).trans hbk; have r0 : Wa.cell? ⟨W.heap.size, 0, none⟩ = some (.int .i64 4) := blk_cell hbka 0; have r1 : Wa.cell? ⟨W.heap.size, 1, none⟩ = some (.string t) := blk_cell hbka 1; have r2 : Wa.cell? ⟨W.heap.size, 2, none⟩ = some (.slice A1 a c1) := blk_cell hbka 2; have r3 : Wa.cell? ⟨W.heap.size, 3, none⟩ = some (.slice A2 b c2) := blk_cell hbka 3; have hN := ref_Number (c := ca) hYa (by rw [← Lib.size_eq]; omega); rw [show t.data.toList.length = t.size from (Lib.size_eq t).symm, num_eq, HVM.out] at hN; have HN := Lib.hid hN; have HBA := Lib.hid (HB2.out.trans (hBa.mono HB2.out.size)); clear hBa hsa hYa hla hma hbka hN; clear hb2 hbk)
        | (go_at_call 16; (with_reducible refine HN.out.mono ?_); rintro e' wz ⟨rfl, hwz⟩; have hwz := hwz.symm; subst hwz))
      go_ret
      exact ⟨rfl, HBA.out⟩
    · have z2 : ((b : Int) == 0) = false := by simpa using hb
      have z3 : (a == 0 && b == 0) = false := by simp [hb]
      rw [z3]
      clear z3 ha hb
      have hB1 : Below W.heap.size W (W.alloc (Obj.cells #[.int .i64 4, .string t, .slice A1 a c1, .slice A2 b c2] 25)) := by go_grown
      have h0 := heap_alloc_new W (Obj.cells #[.int .i64 4, .string t, .slice A1 a c1, .slice A2 b c2] 25)
      have HX := Lib.hid (fun W' (hb : Below (W.alloc (Obj.cells #[.int .i64 4, .string t, .slice A1 a c1, .slice A2 b c2] 25)).heap.size (W.alloc (Obj.cells #[.int .i64 4, .string t, .slice A1 a c1, .slice A2 b c2] 25)) W') => (hb.block _ (blk_lt h0)).trans h0)
      have hU := ref_UTF8 t (W.alloc (Obj.cells #[.int .i64 4, .string t, .slice A1 a c1, .slice A2 b c2] 25)) (by omega)
      have HB1 := Lib.hid hB1
      rw [hv] at hU
      have HU := Lib.hid hU
      clear hU h0 hB1 hv
      have HVM := Lib.hid hm
      clear hm
      go_enter Tryd.func19, Tryd.ntmps19
      go_wp2_with (first
        | (go_at_call 15; (with_reducible refine HU.out.mono ?_); rintro e' w2 ⟨rfl, hb2⟩; have hbk := HX.out _ hb2; have q0 : w2.cell? ⟨W.heap.size, 0, none⟩ = some (.int .i64 4) := blk_cell hbk 0; have q1 : w2.cell? ⟨W.heap.size, 1, none⟩ = some (.string t) := blk_cell hbk 1; have q2 : w2.cell? ⟨W.heap.size, 2, none⟩ = some (.slice A1 a c1) := blk_cell hbk 2; have q3 : w2.cell? ⟨W.heap.size, 3, none⟩ = some (.slice A2 b c2) := blk_cell hbk 3; have HB2 := Lib.hid (HB1.out.trans (hb2.mono HB1.out.size)); obtain ⟨Wa, ca, hca, hBa, hsa, hYa, hla, hma⟩ := conv_bytes w2 t (by omega); have hbka := (hBa.block _ (blk_lt hbk)).trans hbk; have r0 : Wa.cell? ⟨W.heap.size, 0, none⟩ = some (.int .i64 4) := blk_cell hbka 0; have r1 : Wa.cell? ⟨W.heap.size, 1, none⟩ = some (.string t) := blk_cell hbka 1; have r2 : Wa.cell? ⟨W.heap.size, 2, none⟩ = some (.slice A1 a c1) := blk_cell hbka 2; have r3 : Wa.cell? ⟨W.heap.size, 3, none⟩ = some (.slice A2 b c2) := blk_cell hbka 3; have hN := ref_Number (c := ca) hYa (by rw [← Lib.size_eq]; omega); rw [show t.data.toList.length = t.size from (Lib.size_eq t).symm, num_eq, HVM.out] at hN; have HN := Lib.hid hN; have HBA := Lib.hid (HB2.out.trans (hBa.mono HB2.out.size)); clear hBa hsa hYa hla hma hbka hN; clear hb2 hbk)
        | (go_at_call 16; (with_reducible refine HN.out.mono ?_); rintro e' wz ⟨rfl, hwz⟩; have hwz := hwz.symm; subst hwz))
      go_ret
      exact ⟨rfl, HBA.out⟩
  · have z1 : ((a : Int) == 0) = false := by simpa using ha
    have z3 : (a == 0 && b == 0) = false := by simp [ha]
    rw [z3]
    clear z3 ha
    have hB1 : Below W.heap.size W (W.alloc (Obj.cells #[.int .i64 4, .string t, .slice A1 a c1, .slice A2 b c2] 25)) := by go_grown
    have h0 := heap_alloc_new W (Obj.cells #[.int .i64 4, .string t, .slice A1 a c1, .slice A2 b c2] 25)
    have HX := Lib.hid (fun W' (hb : Below (W.alloc (Obj.cells #[.int .i64 4, .string t, .slice A1 a c1, .slice A2 b c2] 25)).heap.size (W.alloc (Obj.cells #[.int .i64 4, .string t, .slice A1 a c1, .slice A2 b c2] 25)) W') => (hb.block _ (blk_lt h0)).trans h0)
    have hU := ref_UTF8 t (W.alloc (Obj.cells #[.int .i64 4, .string t, .slice A1 a c1, .slice A2 b c2] 25)) (by omega)
    have HB1 := Lib.hid hB1
    rw [hv] at hU
    have HU := Lib.hid hU
    clear hU h0 hB1 hv
    have HVM := Lib.hid hm
    clear hm
    go_enter Tryd.func19, Tryd.ntmps19
    go_wp2_with (first
      | (go_at_call 15; (with_reducible refine HU.out.mono ?_); rintro e' w2 ⟨rfl, hb2⟩; have hbk := HX.out _ hb2; have q0 : w2.cell? ⟨W.heap.size, 0, none⟩ = some (.int .i64 4) := blk_cell hbk 0; have q1 : w2.cell? ⟨W.heap.size, 1, none⟩ = some (.string t) := blk_cell hbk 1; have q2 : w2.cell? ⟨W.heap.size, 2, none⟩ = some (.slice A1 a c1) := blk_cell hbk 2; have q3 : w2.cell? ⟨W.heap.size, 3, none⟩ = some (.slice A2 b c2) := blk_cell hbk 3; have HB2 := Lib.hid (HB1.out.trans (hb2.mono HB1.out.size)); obtain ⟨Wa, ca, hca, hBa, hsa, hYa, hla, hma⟩ := conv_bytes w2 t (by omega); have hbka := (hBa.block _ (blk_lt hbk)).trans hbk; have r0 : Wa.cell? ⟨W.heap.size, 0, none⟩ = some (.int .i64 4) := blk_cell hbka 0; have r1 : Wa.cell? ⟨W.heap.size, 1, none⟩ = some (.string t) := blk_cell hbka 1; have r2 : Wa.cell? ⟨W.heap.size, 2, none⟩ = some (.slice A1 a c1) := blk_cell hbka 2; have r3 : Wa.cell? ⟨W.heap.size, 3, none⟩ = some (.slice A2 b c2) := blk_cell hbka 3; have hN := ref_Number (c := ca) hYa (by rw [← Lib.size_eq]; omega); rw [show t.data.toList.length = t.size from (Lib.size_eq t).symm, num_eq, HVM.out] at hN; have HN := Lib.hid hN; have HBA := Lib.hid (HB2.out.trans (hBa.mono HB2.out.size)); clear hBa hsa hYa hla hma hbka hN; clear hb2 hbk)
      | (go_at_call 16; (with_reducible refine HN.out.mono ?_); rintro e' wz ⟨rfl, hwz⟩; have hwz := hwz.symm; subst hwz))
    go_ret
    exact ⟨rfl, HBA.out⟩
set_option maxHeartbeats 2000000 in
set_option maxRecDepth 100000 in
theorem rs_str {W : World} (t : ByteArray) (A1 A2 : Option Addr) (a c1 b c2 : Nat) (ht : t.size ≤ 2097152) (nn : Int) (hv : Lib.validD t.data.toList = true) :
    Calls Tryd.prog 19 #[.agg #[.int .i64 5, .string t, .slice A1 a c1, .slice A2 b c2], .int .i64 nn] W fun e w' => e = .returned (.bool (a == 0 && b == 0)) ∧ Below W.heap.size W w' := by
  by_cases ha : a = 0
  · have z1 : ((a : Int) == 0) = true := by simp [ha]
    by_cases hb : b = 0
    · have z2 : ((b : Int) == 0) = true := by simp [hb]
      have z3 : (a == 0 && b == 0) = true := by simp [ha, hb]
      rw [z3]
      clear z3 ha hb
      have hB1 : Below W.heap.size W (W.alloc (Obj.cells #[.int .i64 5, .string t, .slice A1 a c1, .slice A2 b c2] 25)) := by go_grown
      have h0 := heap_alloc_new W (Obj.cells #[.int .i64 5, .string t, .slice A1 a c1, .slice A2 b c2] 25)
      have HX := Lib.hid (fun W' (hb : Below (W.alloc (Obj.cells #[.int .i64 5, .string t, .slice A1 a c1, .slice A2 b c2] 25)).heap.size (W.alloc (Obj.cells #[.int .i64 5, .string t, .slice A1 a c1, .slice A2 b c2] 25)) W') => (hb.block _ (blk_lt h0)).trans h0)
      have hU := ref_UTF8 t (W.alloc (Obj.cells #[.int .i64 5, .string t, .slice A1 a c1, .slice A2 b c2] 25)) (by omega)
      have HB1 := Lib.hid hB1
      rw [hv] at hU
      have HU := Lib.hid hU
      clear hU h0 hB1 hv
      go_enter Tryd.func19, Tryd.ntmps19
      go_wp2_with (go_at_call 15; (with_reducible refine HU.out.mono ?_); rintro e' w2 ⟨rfl, hb2⟩; have hbk := HX.out _ hb2; have q0 : w2.cell? ⟨W.heap.size, 0, none⟩ = some (.int .i64 5) := blk_cell hbk 0; have q1 : w2.cell? ⟨W.heap.size, 1, none⟩ = some (.string t) := blk_cell hbk 1; have q2 : w2.cell? ⟨W.heap.size, 2, none⟩ = some (.slice A1 a c1) := blk_cell hbk 2; have q3 : w2.cell? ⟨W.heap.size, 3, none⟩ = some (.slice A2 b c2) := blk_cell hbk 3; have HB2 := Lib.hid (HB1.out.trans (hb2.mono HB1.out.size)); clear hb2 hbk)
      go_ret
      exact ⟨rfl, HB2.out⟩
    · have z2 : ((b : Int) == 0) = false := by simpa using hb
      have z3 : (a == 0 && b == 0) = false := by simp [hb]
      rw [z3]
      clear z3 ha hb
      have hB1 : Below W.heap.size W (W.alloc (Obj.cells #[.int .i64 5, .string t, .slice A1 a c1, .slice A2 b c2] 25)) := by go_grown
      have h0 := heap_alloc_new W (Obj.cells #[.int .i64 5, .string t, .slice A1 a c1, .slice A2 b c2] 25)
      have HX := Lib.hid (fun W' (hb : Below (W.alloc (Obj.cells #[.int .i64 5, .string t, .slice A1 a c1, .slice A2 b c2] 25)).heap.size (W.alloc (Obj.cells #[.int .i64 5, .string t, .slice A1 a c1, .slice A2 b c2] 25)) W') => (hb.block _ (blk_lt h0)).trans h0)
      have hU := ref_UTF8 t (W.alloc (Obj.cells #[.int .i64 5, .string t, .slice A1 a c1, .slice A2 b c2] 25)) (by omega)
      have HB1 := Lib.hid hB1
      rw [hv] at hU
      have HU := Lib.hid hU
      clear hU h0 hB1 hv
      go_enter Tryd.func19, Tryd.ntmps19
      go_wp2_with (go_at_call 15; (with_reducible refine HU.out.mono ?_); rintro e' w2 ⟨rfl, hb2⟩; have hbk := HX.out _ hb2; have q0 : w2.cell? ⟨W.heap.size, 0, none⟩ = some (.int .i64 5) := blk_cell hbk 0; have q1 : w2.cell? ⟨W.heap.size, 1, none⟩ = some (.string t) := blk_cell hbk 1; have q2 : w2.cell? ⟨W.heap.size, 2, none⟩ = some (.slice A1 a c1) := blk_cell hbk 2; have q3 : w2.cell? ⟨W.heap.size, 3, none⟩ = some (.slice A2 b c2) := blk_cell hbk 3; have HB2 := Lib.hid (HB1.out.trans (hb2.mono HB1.out.size)); clear hb2 hbk)
      go_ret
      exact ⟨rfl, HB2.out⟩
  · have z1 : ((a : Int) == 0) = false := by simpa using ha
    have z3 : (a == 0 && b == 0) = false := by simp [ha]
    rw [z3]
    clear z3 ha
    have hB1 : Below W.heap.size W (W.alloc (Obj.cells #[.int .i64 5, .string t, .slice A1 a c1, .slice A2 b c2] 25)) := by go_grown
    have h0 := heap_alloc_new W (Obj.cells #[.int .i64 5, .string t, .slice A1 a c1, .slice A2 b c2] 25)
    have HX := Lib.hid (fun W' (hb : Below (W.alloc (Obj.cells #[.int .i64 5, .string t, .slice A1 a c1, .slice A2 b c2] 25)).heap.size (W.alloc (Obj.cells #[.int .i64 5, .string t, .slice A1 a c1, .slice A2 b c2] 25)) W') => (hb.block _ (blk_lt h0)).trans h0)
    have hU := ref_UTF8 t (W.alloc (Obj.cells #[.int .i64 5, .string t, .slice A1 a c1, .slice A2 b c2] 25)) (by omega)
    have HB1 := Lib.hid hB1
    rw [hv] at hU
    have HU := Lib.hid hU
    clear hU h0 hB1 hv
    go_enter Tryd.func19, Tryd.ntmps19
    go_wp2_with (go_at_call 15; (with_reducible refine HU.out.mono ?_); rintro e' w2 ⟨rfl, hb2⟩; have hbk := HX.out _ hb2; have q0 : w2.cell? ⟨W.heap.size, 0, none⟩ = some (.int .i64 5) := blk_cell hbk 0; have q1 : w2.cell? ⟨W.heap.size, 1, none⟩ = some (.string t) := blk_cell hbk 1; have q2 : w2.cell? ⟨W.heap.size, 2, none⟩ = some (.slice A1 a c1) := blk_cell hbk 2; have q3 : w2.cell? ⟨W.heap.size, 3, none⟩ = some (.slice A2 b c2) := blk_cell hbk 3; have HB2 := Lib.hid (HB1.out.trans (hb2.mono HB1.out.size)); clear hb2 hbk)
    go_ret
    exact ⟨rfl, HB2.out⟩
set_option maxHeartbeats 2000000 in
set_option maxRecDepth 100000 in
theorem rs_word1 {W : World} (t : ByteArray) (A1 A2 : Option Addr) (a c1 b c2 : Nat) (ht : t.size ≤ 2097152) (nn : Int) (hv : Lib.validD t.data.toList = true) (hz : t.toList.isEmpty = true) :
    Calls Tryd.prog 19 #[.agg #[.int .i64 1, .string t, .slice A1 a c1, .slice A2 b c2], .int .i64 nn] W fun e w' => e = .returned (.bool (a == 0 && b == 0)) ∧ Below W.heap.size W w' := by
  by_cases ha : a = 0
  · have z1 : ((a : Int) == 0) = true := by simp [ha]
    by_cases hb : b = 0
    · have z2 : ((b : Int) == 0) = true := by simp [hb]
      have z3 : (a == 0 && b == 0) = true := by simp [ha, hb]
      rw [z3]
      clear z3 ha hb
      have hB1 : Below W.heap.size W (W.alloc (Obj.cells #[.int .i64 1, .string t, .slice A1 a c1, .slice A2 b c2] 25)) := by go_grown
      have h0 := heap_alloc_new W (Obj.cells #[.int .i64 1, .string t, .slice A1 a c1, .slice A2 b c2] 25)
      have HX := Lib.hid (fun W' (hb : Below (W.alloc (Obj.cells #[.int .i64 1, .string t, .slice A1 a c1, .slice A2 b c2] 25)).heap.size (W.alloc (Obj.cells #[.int .i64 1, .string t, .slice A1 a c1, .slice A2 b c2] 25)) W') => (hb.block _ (blk_lt h0)).trans h0)
      have hU := ref_UTF8 t (W.alloc (Obj.cells #[.int .i64 1, .string t, .slice A1 a c1, .slice A2 b c2] 25)) (by omega)
      have HB1 := Lib.hid hB1
      rw [hv] at hU
      have HU := Lib.hid hU
      clear hU h0 hB1 hv
      go_enter Tryd.func19, Tryd.ntmps19
      go_wp2_with (go_at_call 15; (with_reducible refine HU.out.mono ?_); rintro e' w2 ⟨rfl, hb2⟩; have hbk := HX.out _ hb2; have q0 : w2.cell? ⟨W.heap.size, 0, none⟩ = some (.int .i64 1) := blk_cell hbk 0; have q1 : w2.cell? ⟨W.heap.size, 1, none⟩ = some (.string t) := blk_cell hbk 1; have q2 : w2.cell? ⟨W.heap.size, 2, none⟩ = some (.slice A1 a c1) := blk_cell hbk 2; have q3 : w2.cell? ⟨W.heap.size, 3, none⟩ = some (.slice A2 b c2) := blk_cell hbk 3; have HB2 := Lib.hid (HB1.out.trans (hb2.mono HB1.out.size)); clear hb2 hbk)
      go_ret
      exact ⟨rfl, HB2.out⟩
    · have z2 : ((b : Int) == 0) = false := by simpa using hb
      have z3 : (a == 0 && b == 0) = false := by simp [hb]
      rw [z3]
      clear z3 ha hb
      have hB1 : Below W.heap.size W (W.alloc (Obj.cells #[.int .i64 1, .string t, .slice A1 a c1, .slice A2 b c2] 25)) := by go_grown
      have h0 := heap_alloc_new W (Obj.cells #[.int .i64 1, .string t, .slice A1 a c1, .slice A2 b c2] 25)
      have HX := Lib.hid (fun W' (hb : Below (W.alloc (Obj.cells #[.int .i64 1, .string t, .slice A1 a c1, .slice A2 b c2] 25)).heap.size (W.alloc (Obj.cells #[.int .i64 1, .string t, .slice A1 a c1, .slice A2 b c2] 25)) W') => (hb.block _ (blk_lt h0)).trans h0)
      have hU := ref_UTF8 t (W.alloc (Obj.cells #[.int .i64 1, .string t, .slice A1 a c1, .slice A2 b c2] 25)) (by omega)
      have HB1 := Lib.hid hB1
      rw [hv] at hU
      have HU := Lib.hid hU
      clear hU h0 hB1 hv
      go_enter Tryd.func19, Tryd.ntmps19
      go_wp2_with (go_at_call 15; (with_reducible refine HU.out.mono ?_); rintro e' w2 ⟨rfl, hb2⟩; have hbk := HX.out _ hb2; have q0 : w2.cell? ⟨W.heap.size, 0, none⟩ = some (.int .i64 1) := blk_cell hbk 0; have q1 : w2.cell? ⟨W.heap.size, 1, none⟩ = some (.string t) := blk_cell hbk 1; have q2 : w2.cell? ⟨W.heap.size, 2, none⟩ = some (.slice A1 a c1) := blk_cell hbk 2; have q3 : w2.cell? ⟨W.heap.size, 3, none⟩ = some (.slice A2 b c2) := blk_cell hbk 3; have HB2 := Lib.hid (HB1.out.trans (hb2.mono HB1.out.size)); clear hb2 hbk)
      go_ret
      exact ⟨rfl, HB2.out⟩
  · have z1 : ((a : Int) == 0) = false := by simpa using ha
    have z3 : (a == 0 && b == 0) = false := by simp [ha]
    rw [z3]
    clear z3 ha
    have hB1 : Below W.heap.size W (W.alloc (Obj.cells #[.int .i64 1, .string t, .slice A1 a c1, .slice A2 b c2] 25)) := by go_grown
    have h0 := heap_alloc_new W (Obj.cells #[.int .i64 1, .string t, .slice A1 a c1, .slice A2 b c2] 25)
    have HX := Lib.hid (fun W' (hb : Below (W.alloc (Obj.cells #[.int .i64 1, .string t, .slice A1 a c1, .slice A2 b c2] 25)).heap.size (W.alloc (Obj.cells #[.int .i64 1, .string t, .slice A1 a c1, .slice A2 b c2] 25)) W') => (hb.block _ (blk_lt h0)).trans h0)
    have hU := ref_UTF8 t (W.alloc (Obj.cells #[.int .i64 1, .string t, .slice A1 a c1, .slice A2 b c2] 25)) (by omega)
    have HB1 := Lib.hid hB1
    rw [hv] at hU
    have HU := Lib.hid hU
    clear hU h0 hB1 hv
    go_enter Tryd.func19, Tryd.ntmps19
    go_wp2_with (go_at_call 15; (with_reducible refine HU.out.mono ?_); rintro e' w2 ⟨rfl, hb2⟩; have hbk := HX.out _ hb2; have q0 : w2.cell? ⟨W.heap.size, 0, none⟩ = some (.int .i64 1) := blk_cell hbk 0; have q1 : w2.cell? ⟨W.heap.size, 1, none⟩ = some (.string t) := blk_cell hbk 1; have q2 : w2.cell? ⟨W.heap.size, 2, none⟩ = some (.slice A1 a c1) := blk_cell hbk 2; have q3 : w2.cell? ⟨W.heap.size, 3, none⟩ = some (.slice A2 b c2) := blk_cell hbk 3; have HB2 := Lib.hid (HB1.out.trans (hb2.mono HB1.out.size)); clear hb2 hbk)
    go_ret
    exact ⟨rfl, HB2.out⟩
set_option maxHeartbeats 2000000 in
set_option maxRecDepth 100000 in
theorem rs_word2 {W : World} (t : ByteArray) (A1 A2 : Option Addr) (a c1 b c2 : Nat) (ht : t.size ≤ 2097152) (nn : Int) (hv : Lib.validD t.data.toList = true) (hz : t.toList.isEmpty = true) :
    Calls Tryd.prog 19 #[.agg #[.int .i64 2, .string t, .slice A1 a c1, .slice A2 b c2], .int .i64 nn] W fun e w' => e = .returned (.bool (a == 0 && b == 0)) ∧ Below W.heap.size W w' := by
  by_cases ha : a = 0
  · have z1 : ((a : Int) == 0) = true := by simp [ha]
    by_cases hb : b = 0
    · have z2 : ((b : Int) == 0) = true := by simp [hb]
      have z3 : (a == 0 && b == 0) = true := by simp [ha, hb]
      rw [z3]
      clear z3 ha hb
      have hB1 : Below W.heap.size W (W.alloc (Obj.cells #[.int .i64 2, .string t, .slice A1 a c1, .slice A2 b c2] 25)) := by go_grown
      have h0 := heap_alloc_new W (Obj.cells #[.int .i64 2, .string t, .slice A1 a c1, .slice A2 b c2] 25)
      have HX := Lib.hid (fun W' (hb : Below (W.alloc (Obj.cells #[.int .i64 2, .string t, .slice A1 a c1, .slice A2 b c2] 25)).heap.size (W.alloc (Obj.cells #[.int .i64 2, .string t, .slice A1 a c1, .slice A2 b c2] 25)) W') => (hb.block _ (blk_lt h0)).trans h0)
      have hU := ref_UTF8 t (W.alloc (Obj.cells #[.int .i64 2, .string t, .slice A1 a c1, .slice A2 b c2] 25)) (by omega)
      have HB1 := Lib.hid hB1
      rw [hv] at hU
      have HU := Lib.hid hU
      clear hU h0 hB1 hv
      go_enter Tryd.func19, Tryd.ntmps19
      go_wp2_with (go_at_call 15; (with_reducible refine HU.out.mono ?_); rintro e' w2 ⟨rfl, hb2⟩; have hbk := HX.out _ hb2; have q0 : w2.cell? ⟨W.heap.size, 0, none⟩ = some (.int .i64 2) := blk_cell hbk 0; have q1 : w2.cell? ⟨W.heap.size, 1, none⟩ = some (.string t) := blk_cell hbk 1; have q2 : w2.cell? ⟨W.heap.size, 2, none⟩ = some (.slice A1 a c1) := blk_cell hbk 2; have q3 : w2.cell? ⟨W.heap.size, 3, none⟩ = some (.slice A2 b c2) := blk_cell hbk 3; have HB2 := Lib.hid (HB1.out.trans (hb2.mono HB1.out.size)); clear hb2 hbk)
      go_ret
      exact ⟨rfl, HB2.out⟩
    · have z2 : ((b : Int) == 0) = false := by simpa using hb
      have z3 : (a == 0 && b == 0) = false := by simp [hb]
      rw [z3]
      clear z3 ha hb
      have hB1 : Below W.heap.size W (W.alloc (Obj.cells #[.int .i64 2, .string t, .slice A1 a c1, .slice A2 b c2] 25)) := by go_grown
      have h0 := heap_alloc_new W (Obj.cells #[.int .i64 2, .string t, .slice A1 a c1, .slice A2 b c2] 25)
      have HX := Lib.hid (fun W' (hb : Below (W.alloc (Obj.cells #[.int .i64 2, .string t, .slice A1 a c1, .slice A2 b c2] 25)).heap.size (W.alloc (Obj.cells #[.int .i64 2, .string t, .slice A1 a c1, .slice A2 b c2] 25)) W') => (hb.block _ (blk_lt h0)).trans h0)
      have hU := ref_UTF8 t (W.alloc (Obj.cells #[.int .i64 2, .string t, .slice A1 a c1, .slice A2 b c2] 25)) (by omega)
      have HB1 := Lib.hid hB1
      rw [hv] at hU
      have HU := Lib.hid hU
      clear hU h0 hB1 hv
      go_enter Tryd.func19, Tryd.ntmps19
      go_wp2_with (go_at_call 15; (with_reducible refine HU.out.mono ?_); rintro e' w2 ⟨rfl, hb2⟩; have hbk := HX.out _ hb2; have q0 : w2.cell? ⟨W.heap.size, 0, none⟩ = some (.int .i64 2) := blk_cell hbk 0; have q1 : w2.cell? ⟨W.heap.size, 1, none⟩ = some (.string t) := blk_cell hbk 1; have q2 : w2.cell? ⟨W.heap.size, 2, none⟩ = some (.slice A1 a c1) := blk_cell hbk 2; have q3 : w2.cell? ⟨W.heap.size, 3, none⟩ = some (.slice A2 b c2) := blk_cell hbk 3; have HB2 := Lib.hid (HB1.out.trans (hb2.mono HB1.out.size)); clear hb2 hbk)
      go_ret
      exact ⟨rfl, HB2.out⟩
  · have z1 : ((a : Int) == 0) = false := by simpa using ha
    have z3 : (a == 0 && b == 0) = false := by simp [ha]
    rw [z3]
    clear z3 ha
    have hB1 : Below W.heap.size W (W.alloc (Obj.cells #[.int .i64 2, .string t, .slice A1 a c1, .slice A2 b c2] 25)) := by go_grown
    have h0 := heap_alloc_new W (Obj.cells #[.int .i64 2, .string t, .slice A1 a c1, .slice A2 b c2] 25)
    have HX := Lib.hid (fun W' (hb : Below (W.alloc (Obj.cells #[.int .i64 2, .string t, .slice A1 a c1, .slice A2 b c2] 25)).heap.size (W.alloc (Obj.cells #[.int .i64 2, .string t, .slice A1 a c1, .slice A2 b c2] 25)) W') => (hb.block _ (blk_lt h0)).trans h0)
    have hU := ref_UTF8 t (W.alloc (Obj.cells #[.int .i64 2, .string t, .slice A1 a c1, .slice A2 b c2] 25)) (by omega)
    have HB1 := Lib.hid hB1
    rw [hv] at hU
    have HU := Lib.hid hU
    clear hU h0 hB1 hv
    go_enter Tryd.func19, Tryd.ntmps19
    go_wp2_with (go_at_call 15; (with_reducible refine HU.out.mono ?_); rintro e' w2 ⟨rfl, hb2⟩; have hbk := HX.out _ hb2; have q0 : w2.cell? ⟨W.heap.size, 0, none⟩ = some (.int .i64 2) := blk_cell hbk 0; have q1 : w2.cell? ⟨W.heap.size, 1, none⟩ = some (.string t) := blk_cell hbk 1; have q2 : w2.cell? ⟨W.heap.size, 2, none⟩ = some (.slice A1 a c1) := blk_cell hbk 2; have q3 : w2.cell? ⟨W.heap.size, 3, none⟩ = some (.slice A2 b c2) := blk_cell hbk 3; have HB2 := Lib.hid (HB1.out.trans (hb2.mono HB1.out.size)); clear hb2 hbk)
    go_ret
    exact ⟨rfl, HB2.out⟩
set_option maxHeartbeats 2000000 in
set_option maxRecDepth 100000 in
theorem rs_word3 {W : World} (t : ByteArray) (A1 A2 : Option Addr) (a c1 b c2 : Nat) (ht : t.size ≤ 2097152) (nn : Int) (hv : Lib.validD t.data.toList = true) (hz : t.toList.isEmpty = true) :
    Calls Tryd.prog 19 #[.agg #[.int .i64 3, .string t, .slice A1 a c1, .slice A2 b c2], .int .i64 nn] W fun e w' => e = .returned (.bool (a == 0 && b == 0)) ∧ Below W.heap.size W w' := by
  by_cases ha : a = 0
  · have z1 : ((a : Int) == 0) = true := by simp [ha]
    by_cases hb : b = 0
    · have z2 : ((b : Int) == 0) = true := by simp [hb]
      have z3 : (a == 0 && b == 0) = true := by simp [ha, hb]
      rw [z3]
      clear z3 ha hb
      have hB1 : Below W.heap.size W (W.alloc (Obj.cells #[.int .i64 3, .string t, .slice A1 a c1, .slice A2 b c2] 25)) := by go_grown
      have h0 := heap_alloc_new W (Obj.cells #[.int .i64 3, .string t, .slice A1 a c1, .slice A2 b c2] 25)
      have HX := Lib.hid (fun W' (hb : Below (W.alloc (Obj.cells #[.int .i64 3, .string t, .slice A1 a c1, .slice A2 b c2] 25)).heap.size (W.alloc (Obj.cells #[.int .i64 3, .string t, .slice A1 a c1, .slice A2 b c2] 25)) W') => (hb.block _ (blk_lt h0)).trans h0)
      have hU := ref_UTF8 t (W.alloc (Obj.cells #[.int .i64 3, .string t, .slice A1 a c1, .slice A2 b c2] 25)) (by omega)
      have HB1 := Lib.hid hB1
      rw [hv] at hU
      have HU := Lib.hid hU
      clear hU h0 hB1 hv
      go_enter Tryd.func19, Tryd.ntmps19
      go_wp2_with (go_at_call 15; (with_reducible refine HU.out.mono ?_); rintro e' w2 ⟨rfl, hb2⟩; have hbk := HX.out _ hb2; have q0 : w2.cell? ⟨W.heap.size, 0, none⟩ = some (.int .i64 3) := blk_cell hbk 0; have q1 : w2.cell? ⟨W.heap.size, 1, none⟩ = some (.string t) := blk_cell hbk 1; have q2 : w2.cell? ⟨W.heap.size, 2, none⟩ = some (.slice A1 a c1) := blk_cell hbk 2; have q3 : w2.cell? ⟨W.heap.size, 3, none⟩ = some (.slice A2 b c2) := blk_cell hbk 3; have HB2 := Lib.hid (HB1.out.trans (hb2.mono HB1.out.size)); clear hb2 hbk)
      go_ret
      exact ⟨rfl, HB2.out⟩
    · have z2 : ((b : Int) == 0) = false := by simpa using hb
      have z3 : (a == 0 && b == 0) = false := by simp [hb]
      rw [z3]
      clear z3 ha hb
      have hB1 : Below W.heap.size W (W.alloc (Obj.cells #[.int .i64 3, .string t, .slice A1 a c1, .slice A2 b c2] 25)) := by go_grown
      have h0 := heap_alloc_new W (Obj.cells #[.int .i64 3, .string t, .slice A1 a c1, .slice A2 b c2] 25)
      have HX := Lib.hid (fun W' (hb : Below (W.alloc (Obj.cells #[.int .i64 3, .string t, .slice A1 a c1, .slice A2 b c2] 25)).heap.size (W.alloc (Obj.cells #[.int .i64 3, .string t, .slice A1 a c1, .slice A2 b c2] 25)) W') => (hb.block _ (blk_lt h0)).trans h0)
      have hU := ref_UTF8 t (W.alloc (Obj.cells #[.int .i64 3, .string t, .slice A1 a c1, .slice A2 b c2] 25)) (by omega)
      have HB1 := Lib.hid hB1
      rw [hv] at hU
      have HU := Lib.hid hU
      clear hU h0 hB1 hv
      go_enter Tryd.func19, Tryd.ntmps19
      go_wp2_with (go_at_call 15; (with_reducible refine HU.out.mono ?_); rintro e' w2 ⟨rfl, hb2⟩; have hbk := HX.out _ hb2; have q0 : w2.cell? ⟨W.heap.size, 0, none⟩ = some (.int .i64 3) := blk_cell hbk 0; have q1 : w2.cell? ⟨W.heap.size, 1, none⟩ = some (.string t) := blk_cell hbk 1; have q2 : w2.cell? ⟨W.heap.size, 2, none⟩ = some (.slice A1 a c1) := blk_cell hbk 2; have q3 : w2.cell? ⟨W.heap.size, 3, none⟩ = some (.slice A2 b c2) := blk_cell hbk 3; have HB2 := Lib.hid (HB1.out.trans (hb2.mono HB1.out.size)); clear hb2 hbk)
      go_ret
      exact ⟨rfl, HB2.out⟩
  · have z1 : ((a : Int) == 0) = false := by simpa using ha
    have z3 : (a == 0 && b == 0) = false := by simp [ha]
    rw [z3]
    clear z3 ha
    have hB1 : Below W.heap.size W (W.alloc (Obj.cells #[.int .i64 3, .string t, .slice A1 a c1, .slice A2 b c2] 25)) := by go_grown
    have h0 := heap_alloc_new W (Obj.cells #[.int .i64 3, .string t, .slice A1 a c1, .slice A2 b c2] 25)
    have HX := Lib.hid (fun W' (hb : Below (W.alloc (Obj.cells #[.int .i64 3, .string t, .slice A1 a c1, .slice A2 b c2] 25)).heap.size (W.alloc (Obj.cells #[.int .i64 3, .string t, .slice A1 a c1, .slice A2 b c2] 25)) W') => (hb.block _ (blk_lt h0)).trans h0)
    have hU := ref_UTF8 t (W.alloc (Obj.cells #[.int .i64 3, .string t, .slice A1 a c1, .slice A2 b c2] 25)) (by omega)
    have HB1 := Lib.hid hB1
    rw [hv] at hU
    have HU := Lib.hid hU
    clear hU h0 hB1 hv
    go_enter Tryd.func19, Tryd.ntmps19
    go_wp2_with (go_at_call 15; (with_reducible refine HU.out.mono ?_); rintro e' w2 ⟨rfl, hb2⟩; have hbk := HX.out _ hb2; have q0 : w2.cell? ⟨W.heap.size, 0, none⟩ = some (.int .i64 3) := blk_cell hbk 0; have q1 : w2.cell? ⟨W.heap.size, 1, none⟩ = some (.string t) := blk_cell hbk 1; have q2 : w2.cell? ⟨W.heap.size, 2, none⟩ = some (.slice A1 a c1) := blk_cell hbk 2; have q3 : w2.cell? ⟨W.heap.size, 3, none⟩ = some (.slice A2 b c2) := blk_cell hbk 3; have HB2 := Lib.hid (HB1.out.trans (hb2.mono HB1.out.size)); clear hb2 hbk)
    go_ret
    exact ⟨rfl, HB2.out⟩
set_option maxHeartbeats 2000000 in
set_option maxRecDepth 100000 in
theorem rs_deep6 {W : World} (t : ByteArray) (A1 A2 : Option Addr) (a c1 b c2 : Nat) (ht : t.size ≤ 2097152) (nn : Int) (hv : Lib.validD t.data.toList = true) (hz : t.toList.isEmpty = true) (hn : nn = 0) :
    Calls Tryd.prog 19 #[.agg #[.int .i64 6, .string t, .slice A1 a c1, .slice A2 b c2], .int .i64 nn] W fun e w' => e = .returned (.bool false) ∧ Below W.heap.size W w' := by
  subst hn
  have hB1 : Below W.heap.size W (W.alloc (Obj.cells #[.int .i64 6, .string t, .slice A1 a c1, .slice A2 b c2] 25)) := by go_grown
  have h0 := heap_alloc_new W (Obj.cells #[.int .i64 6, .string t, .slice A1 a c1, .slice A2 b c2] 25)
  have HX := Lib.hid (fun W' (hb : Below (W.alloc (Obj.cells #[.int .i64 6, .string t, .slice A1 a c1, .slice A2 b c2] 25)).heap.size (W.alloc (Obj.cells #[.int .i64 6, .string t, .slice A1 a c1, .slice A2 b c2] 25)) W') => (hb.block _ (blk_lt h0)).trans h0)
  have hU := ref_UTF8 t (W.alloc (Obj.cells #[.int .i64 6, .string t, .slice A1 a c1, .slice A2 b c2] 25)) (by omega)
  have HB1 := Lib.hid hB1
  rw [hv] at hU
  have HU := Lib.hid hU
  clear hU h0 hB1 hv
  go_enter Tryd.func19, Tryd.ntmps19
  go_wp2_with (go_at_call 15; (with_reducible refine HU.out.mono ?_); rintro e' w2 ⟨rfl, hb2⟩; have hbk := HX.out _ hb2; have q0 : w2.cell? ⟨W.heap.size, 0, none⟩ = some (.int .i64 6) := blk_cell hbk 0; have q1 : w2.cell? ⟨W.heap.size, 1, none⟩ = some (.string t) := blk_cell hbk 1; have q2 : w2.cell? ⟨W.heap.size, 2, none⟩ = some (.slice A1 a c1) := blk_cell hbk 2; have q3 : w2.cell? ⟨W.heap.size, 3, none⟩ = some (.slice A2 b c2) := blk_cell hbk 3; have HB2 := Lib.hid (HB1.out.trans (hb2.mono HB1.out.size)); clear hb2 hbk)
  go_ret
  exact ⟨rfl, HB2.out⟩
set_option maxHeartbeats 2000000 in
set_option maxRecDepth 100000 in
theorem rs_deep7 {W : World} (t : ByteArray) (A1 A2 : Option Addr) (a c1 b c2 : Nat) (ht : t.size ≤ 2097152) (nn : Int) (hv : Lib.validD t.data.toList = true) (hz : t.toList.isEmpty = true) (hn : nn = 0) :
    Calls Tryd.prog 19 #[.agg #[.int .i64 7, .string t, .slice A1 a c1, .slice A2 b c2], .int .i64 nn] W fun e w' => e = .returned (.bool false) ∧ Below W.heap.size W w' := by
  subst hn
  have hB1 : Below W.heap.size W (W.alloc (Obj.cells #[.int .i64 7, .string t, .slice A1 a c1, .slice A2 b c2] 25)) := by go_grown
  have h0 := heap_alloc_new W (Obj.cells #[.int .i64 7, .string t, .slice A1 a c1, .slice A2 b c2] 25)
  have HX := Lib.hid (fun W' (hb : Below (W.alloc (Obj.cells #[.int .i64 7, .string t, .slice A1 a c1, .slice A2 b c2] 25)).heap.size (W.alloc (Obj.cells #[.int .i64 7, .string t, .slice A1 a c1, .slice A2 b c2] 25)) W') => (hb.block _ (blk_lt h0)).trans h0)
  have hU := ref_UTF8 t (W.alloc (Obj.cells #[.int .i64 7, .string t, .slice A1 a c1, .slice A2 b c2] 25)) (by omega)
  have HB1 := Lib.hid hB1
  rw [hv] at hU
  have HU := Lib.hid hU
  clear hU h0 hB1 hv
  go_enter Tryd.func19, Tryd.ntmps19
  go_wp2_with (go_at_call 15; (with_reducible refine HU.out.mono ?_); rintro e' w2 ⟨rfl, hb2⟩; have hbk := HX.out _ hb2; have q0 : w2.cell? ⟨W.heap.size, 0, none⟩ = some (.int .i64 7) := blk_cell hbk 0; have q1 : w2.cell? ⟨W.heap.size, 1, none⟩ = some (.string t) := blk_cell hbk 1; have q2 : w2.cell? ⟨W.heap.size, 2, none⟩ = some (.slice A1 a c1) := blk_cell hbk 2; have q3 : w2.cell? ⟨W.heap.size, 3, none⟩ = some (.slice A2 b c2) := blk_cell hbk 3; have HB2 := Lib.hid (HB1.out.trans (hb2.mono HB1.out.size)); clear hb2 hbk)
  go_ret
  exact ⟨rfl, HB2.out⟩
set_option maxHeartbeats 2000000 in
set_option maxRecDepth 100000 in
theorem rs_keys6 {W : World} (t : ByteArray) (A1 A2 : Option Addr) (a c1 b c2 : Nat) (ht : t.size ≤ 2097152) (nn : Int) (hv : Lib.validD t.data.toList = true) (hz : t.toList.isEmpty = true) (hn : (nn == 0) = false) (ha : 0 < a) :
    Calls Tryd.prog 19 #[.agg #[.int .i64 6, .string t, .slice A1 a c1, .slice A2 b c2], .int .i64 nn] W fun e w' => e = .returned (.bool false) ∧ Below W.heap.size W w' := by
  have ha1 : (0 : Int) < (a : Int) := by omega
  have hB1 : Below W.heap.size W (W.alloc (Obj.cells #[.int .i64 6, .string t, .slice A1 a c1, .slice A2 b c2] 25)) := by go_grown
  have h0 := heap_alloc_new W (Obj.cells #[.int .i64 6, .string t, .slice A1 a c1, .slice A2 b c2] 25)
  have HX := Lib.hid (fun W' (hb : Below (W.alloc (Obj.cells #[.int .i64 6, .string t, .slice A1 a c1, .slice A2 b c2] 25)).heap.size (W.alloc (Obj.cells #[.int .i64 6, .string t, .slice A1 a c1, .slice A2 b c2] 25)) W') => (hb.block _ (blk_lt h0)).trans h0)
  have hU := ref_UTF8 t (W.alloc (Obj.cells #[.int .i64 6, .string t, .slice A1 a c1, .slice A2 b c2] 25)) (by omega)
  have HB1 := Lib.hid hB1
  rw [hv] at hU
  have HU := Lib.hid hU
  clear hU h0 hB1 hv
  go_enter Tryd.func19, Tryd.ntmps19
  go_wp2_with (go_at_call 15; (with_reducible refine HU.out.mono ?_); rintro e' w2 ⟨rfl, hb2⟩; have hbk := HX.out _ hb2; have q0 : w2.cell? ⟨W.heap.size, 0, none⟩ = some (.int .i64 6) := blk_cell hbk 0; have q1 : w2.cell? ⟨W.heap.size, 1, none⟩ = some (.string t) := blk_cell hbk 1; have q2 : w2.cell? ⟨W.heap.size, 2, none⟩ = some (.slice A1 a c1) := blk_cell hbk 2; have q3 : w2.cell? ⟨W.heap.size, 3, none⟩ = some (.slice A2 b c2) := blk_cell hbk 3; have HB2 := Lib.hid (HB1.out.trans (hb2.mono HB1.out.size)); clear hb2 hbk)
  go_ret
  exact ⟨rfl, HB2.out⟩
set_option maxHeartbeats 2000000 in
set_option maxRecDepth 100000 in
theorem rs_keys7 {W : World} (t : ByteArray) (A1 A2 : Option Addr) (a c1 b c2 : Nat) (ht : t.size ≤ 2097152) (nn : Int) (hv : Lib.validD t.data.toList = true) (hz : t.toList.isEmpty = true) (hn : (nn == 0) = false) (ha : a ≠ b) :
    Calls Tryd.prog 19 #[.agg #[.int .i64 7, .string t, .slice A1 a c1, .slice A2 b c2], .int .i64 nn] W fun e w' => e = .returned (.bool false) ∧ Below W.heap.size W w' := by
  have ha1 : ((a : Int) != (b : Int)) = true := by simp; omega
  have hB1 : Below W.heap.size W (W.alloc (Obj.cells #[.int .i64 7, .string t, .slice A1 a c1, .slice A2 b c2] 25)) := by go_grown
  have h0 := heap_alloc_new W (Obj.cells #[.int .i64 7, .string t, .slice A1 a c1, .slice A2 b c2] 25)
  have HX := Lib.hid (fun W' (hb : Below (W.alloc (Obj.cells #[.int .i64 7, .string t, .slice A1 a c1, .slice A2 b c2] 25)).heap.size (W.alloc (Obj.cells #[.int .i64 7, .string t, .slice A1 a c1, .slice A2 b c2] 25)) W') => (hb.block _ (blk_lt h0)).trans h0)
  have hU := ref_UTF8 t (W.alloc (Obj.cells #[.int .i64 7, .string t, .slice A1 a c1, .slice A2 b c2] 25)) (by omega)
  have HB1 := Lib.hid hB1
  rw [hv] at hU
  have HU := Lib.hid hU
  clear hU h0 hB1 hv
  go_enter Tryd.func19, Tryd.ntmps19
  go_wp2_with (go_at_call 15; (with_reducible refine HU.out.mono ?_); rintro e' w2 ⟨rfl, hb2⟩; have hbk := HX.out _ hb2; have q0 : w2.cell? ⟨W.heap.size, 0, none⟩ = some (.int .i64 7) := blk_cell hbk 0; have q1 : w2.cell? ⟨W.heap.size, 1, none⟩ = some (.string t) := blk_cell hbk 1; have q2 : w2.cell? ⟨W.heap.size, 2, none⟩ = some (.slice A1 a c1) := blk_cell hbk 2; have q3 : w2.cell? ⟨W.heap.size, 3, none⟩ = some (.slice A2 b c2) := blk_cell hbk 3; have HB2 := Lib.hid (HB1.out.trans (hb2.mono HB1.out.size)); clear hb2 hbk)
  go_ret
  exact ⟨rfl, HB2.out⟩
end Go.Proofs.YtmjooghfghmngaaDoor

/- The document's Sound: what is within a value, and any value. -/
namespace Go.Proofs.YtmjooghfghmngaaDoor
open Go.RowKit Go.Shelf Go.Lib

def RSoundAt (n : Nat) : Prop := ∀ (W : World) (F : Nat → Prop) (d : Nat) (k : Int) (t : ByteArray) (A1 A2 : Option Addr) (n1 c1 n2 c2 : Nat) (x : JV), VAt W F d ⟨k, t, .slice A1 n1 c1, .slice A2 n2 c2⟩ x → (∀ g, F g → g < W.heap.size) → BT 2097152 d x →
    Calls Tryd.prog 19 #[.agg #[.int .i64 k, .string t, .slice A1 n1 c1, .slice A2 n2 c2], .int .i64 n] W fun e w' => e = .returned (.bool (soundJ n x)) ∧ Below W.heap.size W w'
set_option maxHeartbeats 4000000 in
set_option maxRecDepth 100000 in
theorem rs_loops6 {n : Nat} (hn : n ≤ 1000) (hI : RSoundAt n) {W : World} {F : Nat → Prop} {d : Nat} (t : ByteArray) {ks : List ByteArray} {xs : List JV} {A1 A2 : Option Addr} {c1 c2 : Nat} (ht : t.size ≤ 2097152)
    (hv : Lib.validD t.data.toList = true) (hz : t.toList.isEmpty = true) (hka : ks.length = 0)
    (hk1 : ∀ (i : Nat) (t : ByteArray), ks[i]? = some t → ∃ g o, A1 = some ⟨g, o, none⟩ ∧ F g ∧ W.cell? ⟨g, o + i, none⟩ = some (.string t))
    (hx1 : ∀ (i : Nat) (x : JV), xs[i]? = some x → ∃ g o y, A2 = some ⟨g, o, none⟩ ∧ F g ∧ W.cell? ⟨g, o + i * 4, none⟩ = some (.int .i64 y.k) ∧ W.cell? ⟨g, o + i * 4 + 1, none⟩ = some (.string y.t) ∧ W.cell? ⟨g, o + i * 4 + 2, none⟩ = some y.kv ∧ W.cell? ⟨g, o + i * 4 + 3, none⟩ = some y.lv ∧ VAt W F d y x)
    (hF : ∀ g, F g → g < W.heap.size) (hks : ks.length ≤ 2097152) (hxs : xs.length ≤ 2097152) (hkm : ∀ k ∈ ks, k.size ≤ 2097152) (hsm : ∀ x ∈ xs, BT 2097152 d x) :
    Calls Tryd.prog 19 #[.agg #[.int .i64 6, .string t, .slice A1 ks.length c1, .slice A2 xs.length c2], .int .i64 ((n + 1 : Nat) : Int)] W fun e w' => e = .returned (.bool (ks.all (fun u => Lib.validD u.data.toList) && xs.all (soundJ n))) ∧ Below W.heap.size W w' := by
  have hwn : IntKind.i64.wrap (((n + 1 : Nat) : Int) - 1) = (n : Int) := by rw [show ((n + 1 : Nat) : Int) - 1 = (n : Int) by omega]; exact IntWalk.i64_in _ (by omega)
  have hn0 : (((n + 1 : Nat) : Int) == 0) = false := by rw [beq_eq_false_iff_ne]; omega
  generalize ((n + 1 : Nat) : Int) = nn at hwn hn0 ⊢
  have hkz0 : ¬ (0 : Int) < (ks.length : Int) := by omega
  have hkz1 : ¬ 0 < ks.length := by omega
  have HKE := Lib.hid hka
  clear hka
  obtain ⟨res, hres⟩ : ∃ res, res = (ks.all (fun u => Lib.validD u.data.toList) && xs.all (soundJ n)) := ⟨_, rfl⟩
  rw [← hres]
  have HRES := Lib.hid hres
  clear hres
  have hU := ref_UTF8 t (W.alloc (Obj.cells #[.int .i64 6, .string t, .slice A1 ks.length c1, .slice A2 xs.length c2] 25)) ht
  rw [hv] at hU
  have HSM := Lib.hid hsm
  have HKM := Lib.hid hkm
  have IH := Lib.hid hI
  have HK1 := Lib.hid hk1
  have HX1 := Lib.hid hx1
  have HF := Lib.hid hF
  have B1' : Below W.heap.size W (W.alloc (Obj.cells #[.int .i64 6, .string t, .slice A1 ks.length c1, .slice A2 xs.length c2] 25)) := by go_grown
  have v0 := heap_alloc_new W (Obj.cells #[.int .i64 6, .string t, .slice A1 ks.length c1, .slice A2 xs.length c2] 25)
  have HC0 := Lib.hid v0
  have HBW := Lib.hid B1'
  have HU := Lib.hid hU
  clear hsm hkm hk1 hx1 hF hI hU v0 B1' hv
  go_enter Tryd.func19, Tryd.ntmps19
  go_wp2_with (go_at_call 15; go_must ((with_reducible refine HU.out.mono ?_); rintro e' w2 ⟨rfl, hb2⟩; have hbk := (hb2.block _ (blk_lt HC0.out)).trans HC0.out; have q0 : w2.cell? ⟨W.heap.size, 0, none⟩ = some (.int .i64 6) := blk_cell hbk 0; have q1 : w2.cell? ⟨W.heap.size, 1, none⟩ = some (.string t) := blk_cell hbk 1; have q2 : w2.cell? ⟨W.heap.size, 2, none⟩ = some (.slice A1 ks.length c1) := blk_cell hbk 2; have q3 : w2.cell? ⟨W.heap.size, 3, none⟩ = some (.slice A2 xs.length c2) := blk_cell hbk 3; have HB2 := Lib.hid (HBW.out.trans (hb2.mono HBW.out.size)); have HX2 := Lib.hid hbk; clear hb2 hbk))
  clear q0 q1 q2 q3 hn0 hz hkz0 hkz1
  have HC : Hid (∀ wr, Below w2.heap.size w2 wr → (wr.cell? ⟨W.heap.size, 0, none⟩ = some (.int .i64 6) ∧ wr.cell? ⟨W.heap.size, 1, none⟩ = some (.string t) ∧ wr.cell? ⟨W.heap.size, 2, none⟩ = some (.slice A1 ks.length c1) ∧ wr.cell? ⟨W.heap.size, 3, none⟩ = some (.slice A2 xs.length c2))) := fun wr hb => by
    have h0 := (hb.block _ (blk_lt HX2.out)).trans HX2.out
    exact ⟨blk_cell h0 0, blk_cell h0 1, blk_cell h0 2, blk_cell h0 3⟩
  go_loopw [5] (fun i wr => ∃ j : Nat, i = .int .i64 j ∧ j ≤ ks.length ∧ Hid (∀ u ∈ ks.take j, Lib.validD u.data.toList = true) ∧ Hid (Below w2.heap.size w2 wr)) (fun i _ => ks.length - (RowKit.intOf i).toNat)
  case atStart => exact ⟨0, rfl, by omega, Lib.hid (fun u hu => by simp at hu), Below.refl _ _⟩
  case round =>
    obtain ⟨j, rfl, hj, HJ, HB⟩ := hrel
    obtain ⟨q0, q1, q2, q3⟩ := HC.out _ HB.out
    by_cases hlt : j < ks.length
    · exact absurd hlt (by have := HKE.out; omega)
    · have hl : ¬ (j : Int) < (ks.length : Int) := by omega
      have HB3 := HB
      have hka : ks.all (fun u => Lib.validD u.data.toList) = true := by
        rw [List.all_eq_true]
        intro u hu
        exact HJ.out u (by rw [List.take_of_length_le (by omega)]; exact hu)
      have HKA := Lib.hid hka
      clear HK1 hj hlt HJ hka HKM
      go_wp2_with fail
      clear q0 q1 q2 q3 hl
      go_loopw [6] (fun i w2' => ∃ m : Nat, i = .int .i64 m ∧ m ≤ xs.length ∧ Hid (∀ y ∈ xs.take m, soundJ n y = true) ∧ Hid (Below w2.heap.size w2 w2')) (fun i _ => xs.length - (RowKit.intOf i).toNat)
      case atStart => exact ⟨0, rfl, by omega, Lib.hid (fun u hu => by simp at hu), HB3.out⟩
      case round =>
        obtain ⟨m, rfl, hm, HM, HB4⟩ := hrel
        obtain ⟨q0, q1, q2, q3⟩ := HC.out _ HB4.out
        by_cases hlt : m < xs.length
        · have hl : (m : Int) < (xs.length : Int) := by omega
          have hl0 : (0 : Int) ≤ (m : Int) := by omega
          obtain ⟨x, hx⟩ : ∃ x, xs[m]? = some x := ⟨xs[m], List.getElem?_eq_getElem hlt⟩
          obtain ⟨ga, oa, ⟨y1k, y1t, y1v, y1l⟩, hAe, hga, a0, a1, a2, a3, hv1⟩ := HX1.out m x hx
          obtain ⟨e, he⟩ := hv1.pos
          have hs1 := VAt.slices (he ▸ hv1)
          obtain ⟨P1, pn, pc, P2, pm, pe, rfl, rfl⟩ := hs1
          simp only at a0 a1 a2 a3
          have hlb : Below W.heap.size W wr := HB2.out.trans (HB4.out.mono HB2.out.size)
          have hat := all_take (soundJ n) xs m x hx HM.out
          have hmem := List.mem_of_getElem? hx
          have hS := IH.out wr F d y1k y1t P1 P2 pn pc pm pe x (hv1.keep fun g hg => ⟨hg, hlb.block g (HF.out g hg)⟩) (fun g hg => Nat.lt_of_lt_of_le (HF.out g hg) hlb.size) (HSM.out x hmem)
          subst hAe
          have ha := hlb.block ga (HF.out ga hga)
          have a0 := (cell_keep ha _).trans a0
          have a1 := (cell_keep ha _).trans a1
          have a2 := (cell_keep ha _).trans a2
          have a3 := (cell_keep ha _).trans a3
          generalize hvu : soundJ n x = vu at hS
          have HS := Lib.hid hS
          have HAT := Lib.hid hat
          have HUM := Lib.hid hmem
          have HVU := Lib.hid hvu
          clear hv1 he hx hga hlb hat hmem hvu ha hS
          cases vu with
          | true =>
            go_wp2_with (go_at_call 19; go_must ((with_reducible refine HS.out.mono ?_); rintro e'' Wi ⟨rfl, hBi⟩; have HBI := Lib.hid (HB4.out.trans (hBi.mono HB4.out.size)); clear hBi))
            exact ⟨⟨m + 1, by go_num, by omega, HAT.out.2 HVU.out, HBI.out⟩, by simp [RowKit.intOf]; omega⟩
          | false =>
            go_wp2_with (go_at_call 19; go_must ((with_reducible refine HS.out.mono ?_); rintro e'' Wi ⟨rfl, hBi⟩; have HBI := Lib.hid (HB4.out.trans (hBi.mono HB4.out.size)); clear hBi))
            go_ret
            refine ⟨?_, HB2.out.trans (HBI.out.mono HB2.out.size)⟩
            have : xs.all (soundJ n) = false := by
              rw [List.all_eq_false]
              exact ⟨x, HUM.out, by rw [HVU.out]; simp⟩
            rw [HRES.out, this, Bool.and_false]
            rfl
        · have hl : ¬ (m : Int) < (xs.length : Int) := by omega
          have hxa : xs.all (soundJ n) = true := by
            rw [List.all_eq_true]
            intro u hu
            exact HM.out u (by rw [List.take_of_length_le (by omega)]; exact hu)
          have HXA := Lib.hid hxa
          clear hxa
          go_wp2_with fail
          go_ret
          exact ⟨by rw [HRES.out, HKA.out, HXA.out]; rfl, HB2.out.trans (HB4.out.mono HB2.out.size)⟩
set_option maxHeartbeats 4000000 in
set_option maxRecDepth 100000 in
theorem rs_loops7 {n : Nat} (hn : n ≤ 1000) (hI : RSoundAt n) {W : World} {F : Nat → Prop} {d : Nat} (t : ByteArray) {ks : List ByteArray} {xs : List JV} {A1 A2 : Option Addr} {c1 c2 : Nat} (ht : t.size ≤ 2097152)
    (hv : Lib.validD t.data.toList = true) (hz : t.toList.isEmpty = true) (hka : ks.length = xs.length)
    (hk1 : ∀ (i : Nat) (t : ByteArray), ks[i]? = some t → ∃ g o, A1 = some ⟨g, o, none⟩ ∧ F g ∧ W.cell? ⟨g, o + i, none⟩ = some (.string t))
    (hx1 : ∀ (i : Nat) (x : JV), xs[i]? = some x → ∃ g o y, A2 = some ⟨g, o, none⟩ ∧ F g ∧ W.cell? ⟨g, o + i * 4, none⟩ = some (.int .i64 y.k) ∧ W.cell? ⟨g, o + i * 4 + 1, none⟩ = some (.string y.t) ∧ W.cell? ⟨g, o + i * 4 + 2, none⟩ = some y.kv ∧ W.cell? ⟨g, o + i * 4 + 3, none⟩ = some y.lv ∧ VAt W F d y x)
    (hF : ∀ g, F g → g < W.heap.size) (hks : ks.length ≤ 2097152) (hxs : xs.length ≤ 2097152) (hkm : ∀ k ∈ ks, k.size ≤ 2097152) (hsm : ∀ x ∈ xs, BT 2097152 d x) :
    Calls Tryd.prog 19 #[.agg #[.int .i64 7, .string t, .slice A1 ks.length c1, .slice A2 xs.length c2], .int .i64 ((n + 1 : Nat) : Int)] W fun e w' => e = .returned (.bool (ks.all (fun u => Lib.validD u.data.toList) && xs.all (soundJ n))) ∧ Below W.heap.size W w' := by
  have hwn : IntKind.i64.wrap (((n + 1 : Nat) : Int) - 1) = (n : Int) := by rw [show ((n + 1 : Nat) : Int) - 1 = (n : Int) by omega]; exact IntWalk.i64_in _ (by omega)
  have hn0 : (((n + 1 : Nat) : Int) == 0) = false := by rw [beq_eq_false_iff_ne]; omega
  generalize ((n + 1 : Nat) : Int) = nn at hwn hn0 ⊢
  have hkz0 : ((ks.length : Int) != (xs.length : Int)) = false := by simp; omega
  clear hka
  obtain ⟨res, hres⟩ : ∃ res, res = (ks.all (fun u => Lib.validD u.data.toList) && xs.all (soundJ n)) := ⟨_, rfl⟩
  rw [← hres]
  have HRES := Lib.hid hres
  clear hres
  have hU := ref_UTF8 t (W.alloc (Obj.cells #[.int .i64 7, .string t, .slice A1 ks.length c1, .slice A2 xs.length c2] 25)) ht
  rw [hv] at hU
  have HSM := Lib.hid hsm
  have HKM := Lib.hid hkm
  have IH := Lib.hid hI
  have HK1 := Lib.hid hk1
  have HX1 := Lib.hid hx1
  have HF := Lib.hid hF
  have B1' : Below W.heap.size W (W.alloc (Obj.cells #[.int .i64 7, .string t, .slice A1 ks.length c1, .slice A2 xs.length c2] 25)) := by go_grown
  have v0 := heap_alloc_new W (Obj.cells #[.int .i64 7, .string t, .slice A1 ks.length c1, .slice A2 xs.length c2] 25)
  have HC0 := Lib.hid v0
  have HBW := Lib.hid B1'
  have HU := Lib.hid hU
  clear hsm hkm hk1 hx1 hF hI hU v0 B1' hv
  go_enter Tryd.func19, Tryd.ntmps19
  go_wp2_with (go_at_call 15; go_must ((with_reducible refine HU.out.mono ?_); rintro e' w2 ⟨rfl, hb2⟩; have hbk := (hb2.block _ (blk_lt HC0.out)).trans HC0.out; have q0 : w2.cell? ⟨W.heap.size, 0, none⟩ = some (.int .i64 7) := blk_cell hbk 0; have q1 : w2.cell? ⟨W.heap.size, 1, none⟩ = some (.string t) := blk_cell hbk 1; have q2 : w2.cell? ⟨W.heap.size, 2, none⟩ = some (.slice A1 ks.length c1) := blk_cell hbk 2; have q3 : w2.cell? ⟨W.heap.size, 3, none⟩ = some (.slice A2 xs.length c2) := blk_cell hbk 3; have HB2 := Lib.hid (HBW.out.trans (hb2.mono HBW.out.size)); have HX2 := Lib.hid hbk; clear hb2 hbk))
  clear q0 q1 q2 q3 hn0 hz hkz0
  have HC : Hid (∀ wr, Below w2.heap.size w2 wr → (wr.cell? ⟨W.heap.size, 0, none⟩ = some (.int .i64 7) ∧ wr.cell? ⟨W.heap.size, 1, none⟩ = some (.string t) ∧ wr.cell? ⟨W.heap.size, 2, none⟩ = some (.slice A1 ks.length c1) ∧ wr.cell? ⟨W.heap.size, 3, none⟩ = some (.slice A2 xs.length c2))) := fun wr hb => by
    have h0 := (hb.block _ (blk_lt HX2.out)).trans HX2.out
    exact ⟨blk_cell h0 0, blk_cell h0 1, blk_cell h0 2, blk_cell h0 3⟩
  go_loopw [5] (fun i wr => ∃ j : Nat, i = .int .i64 j ∧ j ≤ ks.length ∧ Hid (∀ u ∈ ks.take j, Lib.validD u.data.toList = true) ∧ Hid (Below w2.heap.size w2 wr)) (fun i _ => ks.length - (RowKit.intOf i).toNat)
  case atStart => exact ⟨0, rfl, by omega, Lib.hid (fun u hu => by simp at hu), Below.refl _ _⟩
  case round =>
    obtain ⟨j, rfl, hj, HJ, HB⟩ := hrel
    obtain ⟨q0, q1, q2, q3⟩ := HC.out _ HB.out
    by_cases hlt : j < ks.length
    · have hl : (j : Int) < (ks.length : Int) := by omega
      have hl0 : (0 : Int) ≤ (j : Int) := by omega
      obtain ⟨u, hu⟩ : ∃ u, ks[j]? = some u := ⟨ks[j], List.getElem?_eq_getElem hlt⟩
      obtain ⟨ga, oa, hAe, hga, ca⟩ := HK1.out j u hu
      have hlb : Below W.heap.size W wr := HB2.out.trans (HB.out.mono HB2.out.size)
      have s1 := (cell_keep (hlb.block ga (HF.out ga hga)) (oa + j)).trans ca
      have hkz := HKM.out u (List.mem_of_getElem? hu)
      have hV := ref_UTF8 u wr hkz
      have hat := all_take (fun u : ByteArray => Lib.validD u.data.toList) ks j u hu HJ.out
      have hmem := List.mem_of_getElem? hu
      generalize hvu : Lib.validD u.data.toList = vu at hV
      have HV := Lib.hid hV
      have HAT := Lib.hid hat
      have HUM := Lib.hid hmem
      have HVU := Lib.hid hvu
      subst hAe
      clear ca hu hga hlb hkz hat hmem hvu hV
      cases vu with
      | true =>
        go_wp2_with (go_at_call 15; go_must ((with_reducible refine HV.out.mono ?_); rintro e'' Wi ⟨rfl, hBi⟩; have HBI := Lib.hid (HB.out.trans (hBi.mono HB.out.size)); clear hBi))
        exact ⟨⟨j + 1, by go_num, by omega, HAT.out.2 HVU.out, HBI.out⟩, by simp [RowKit.intOf]; omega⟩
      | false =>
        go_wp2_with (go_at_call 15; go_must ((with_reducible refine HV.out.mono ?_); rintro e'' Wi ⟨rfl, hBi⟩; have HBI := Lib.hid (HB.out.trans (hBi.mono HB.out.size)); clear hBi))
        go_ret
        refine ⟨?_, HB2.out.trans (HBI.out.mono HB2.out.size)⟩
        have : ks.all (fun u => Lib.validD u.data.toList) = false := by
          rw [List.all_eq_false]
          exact ⟨u, HUM.out, by rw [HVU.out]; simp⟩
        rw [HRES.out, this]
        rfl
    · have hl : ¬ (j : Int) < (ks.length : Int) := by omega
      have HB3 := HB
      have hka : ks.all (fun u => Lib.validD u.data.toList) = true := by
        rw [List.all_eq_true]
        intro u hu
        exact HJ.out u (by rw [List.take_of_length_le (by omega)]; exact hu)
      have HKA := Lib.hid hka
      clear HK1 hj hlt HJ hka HKM
      go_wp2_with fail
      clear q0 q1 q2 q3 hl
      go_loopw [6] (fun i w2' => ∃ m : Nat, i = .int .i64 m ∧ m ≤ xs.length ∧ Hid (∀ y ∈ xs.take m, soundJ n y = true) ∧ Hid (Below w2.heap.size w2 w2')) (fun i _ => xs.length - (RowKit.intOf i).toNat)
      case atStart => exact ⟨0, rfl, by omega, Lib.hid (fun u hu => by simp at hu), HB3.out⟩
      case round =>
        obtain ⟨m, rfl, hm, HM, HB4⟩ := hrel
        obtain ⟨q0, q1, q2, q3⟩ := HC.out _ HB4.out
        by_cases hlt : m < xs.length
        · have hl : (m : Int) < (xs.length : Int) := by omega
          have hl0 : (0 : Int) ≤ (m : Int) := by omega
          obtain ⟨x, hx⟩ : ∃ x, xs[m]? = some x := ⟨xs[m], List.getElem?_eq_getElem hlt⟩
          obtain ⟨ga, oa, ⟨y1k, y1t, y1v, y1l⟩, hAe, hga, a0, a1, a2, a3, hv1⟩ := HX1.out m x hx
          obtain ⟨e, he⟩ := hv1.pos
          have hs1 := VAt.slices (he ▸ hv1)
          obtain ⟨P1, pn, pc, P2, pm, pe, rfl, rfl⟩ := hs1
          simp only at a0 a1 a2 a3
          have hlb : Below W.heap.size W wr := HB2.out.trans (HB4.out.mono HB2.out.size)
          have hat := all_take (soundJ n) xs m x hx HM.out
          have hmem := List.mem_of_getElem? hx
          have hS := IH.out wr F d y1k y1t P1 P2 pn pc pm pe x (hv1.keep fun g hg => ⟨hg, hlb.block g (HF.out g hg)⟩) (fun g hg => Nat.lt_of_lt_of_le (HF.out g hg) hlb.size) (HSM.out x hmem)
          subst hAe
          have ha := hlb.block ga (HF.out ga hga)
          have a0 := (cell_keep ha _).trans a0
          have a1 := (cell_keep ha _).trans a1
          have a2 := (cell_keep ha _).trans a2
          have a3 := (cell_keep ha _).trans a3
          generalize hvu : soundJ n x = vu at hS
          have HS := Lib.hid hS
          have HAT := Lib.hid hat
          have HUM := Lib.hid hmem
          have HVU := Lib.hid hvu
          clear hv1 he hx hga hlb hat hmem hvu ha hS
          cases vu with
          | true =>
            go_wp2_with (go_at_call 19; go_must ((with_reducible refine HS.out.mono ?_); rintro e'' Wi ⟨rfl, hBi⟩; have HBI := Lib.hid (HB4.out.trans (hBi.mono HB4.out.size)); clear hBi))
            exact ⟨⟨m + 1, by go_num, by omega, HAT.out.2 HVU.out, HBI.out⟩, by simp [RowKit.intOf]; omega⟩
          | false =>
            go_wp2_with (go_at_call 19; go_must ((with_reducible refine HS.out.mono ?_); rintro e'' Wi ⟨rfl, hBi⟩; have HBI := Lib.hid (HB4.out.trans (hBi.mono HB4.out.size)); clear hBi))
            go_ret
            refine ⟨?_, HB2.out.trans (HBI.out.mono HB2.out.size)⟩
            have : xs.all (soundJ n) = false := by
              rw [List.all_eq_false]
              exact ⟨x, HUM.out, by rw [HVU.out]; simp⟩
            rw [HRES.out, this, Bool.and_false]
            rfl
        · have hl : ¬ (m : Int) < (xs.length : Int) := by omega
          have hxa : xs.all (soundJ n) = true := by
            rw [List.all_eq_true]
            intro u hu
            exact HM.out u (by rw [List.take_of_length_le (by omega)]; exact hu)
          have HXA := Lib.hid hxa
          clear hxa
          go_wp2_with fail
          go_ret
          exact ⟨by rw [HRES.out, HKA.out, HXA.out]; rfl, HB2.out.trans (HB4.out.mono HB2.out.size)⟩
theorem nums_low {c : UInt8} (h : numsB.contains c = true) : c.toNat < 128 := by
  have hh : ∀ n : Nat, n < 256 → numsB.contains (UInt8.ofNat n) = true → n < 128 := by decide +kernel
  exact hh c.toNat c.toNat_lt (by rw [UInt8.ofNat_toNat]; exact h)
theorem num_valid {l : List UInt8} (h : numB l = true) : Lib.validD l = true := by
  have h1 := numB_nums h
  rw [Lib.validD_ascii l.length l (fun c hc => nums_low (h1 c (List.mem_of_mem_take hc))), List.drop_length]
  rfl
theorem head_low {k : Int} (t : ByteArray) (a b : Nat) (wi : Bool) (h : k < 1 ∨ 7 < k) : headJ k t a b wi = false := by
  unfold headJ
  rw [if_neg (by omega), if_neg (by omega), if_neg (by omega), if_neg (by omega), if_neg (by omega)]
theorem head_bad {k : Int} {t : ByteArray} (a b : Nat) (wi : Bool) (hv : Lib.validD t.data.toList = false) : headJ k t a b wi = false := by
  have ze : t.toList.isEmpty = false := by
    cases h : t.toList.isEmpty with
    | false => rfl
    | true => rw [empty_text h] at hv; cases hv
  have nm : numB t.data.toList = false := by
    cases h : numB t.data.toList with
    | false => rfl
    | true => rw [num_valid h] at hv; cases hv
  unfold headJ
  rw [ze, nm, hv]
  simp
theorem rsound_of {n : Nat} (hn : n ≤ 1000) (IH : ∀ m, n = m + 1 → RSoundAt m) : RSoundAt n := fun W F d k t A1 A2 n1 c1 n2 c2 x hV hF hB => by
  obtain ⟨e, rfl⟩ := hV.pos
  obtain ⟨k', t', ks, xs⟩ := x
  obtain ⟨e1, e2, ⟨B1, b1, e3, hc1, hk1⟩, B2, b2, e4, hc2, hx1⟩ := hV
  simp only [Value.slice.injEq] at e1 e2 e3 e4
  obtain ⟨rfl, rfl, rfl⟩ := e3
  obtain ⟨rfl, rfl, rfl⟩ := e4
  subst e1 e2
  obtain ⟨ht, hkm, hks, hxs, hsm⟩ := hB
  have hw : soundJ n (.mk k' t' ks xs) = headJ k' t' ks.length xs.length (match n with | 0 => false | m + 1 => ks.all (fun u => Lib.validD u.data.toList) && xs.all (soundJ m)) := by
    cases n <;> rfl
  rw [hw]
  by_cases h1 : k' < 1
  · rw [head_low _ _ _ _ (.inl h1)]; exact rs_low k' t' A1 A2 _ c1 _ c2 ht n h1
  by_cases h7 : 7 < k'
  · rw [head_low _ _ _ _ (.inr h7)]; exact rs_high k' t' A1 A2 _ c1 _ c2 ht n h7
  cases hv : Lib.validD t'.data.toList with
  | false => rw [head_bad _ _ _ hv]; exact rs_bad k' t' A1 A2 _ c1 _ c2 ht n h1 h7 hv
  | true =>
  obtain ⟨ze, hz⟩ : ∃ z, t'.toList.isEmpty = z := ⟨_, rfl⟩
  rcases (show k' = 1 ∨ k' = 2 ∨ k' = 3 ∨ k' = 4 ∨ k' = 5 ∨ k' = 6 ∨ k' = 7 by omega) with rfl | rfl | rfl | rfl | rfl | rfl | rfl
  · have e : ∀ wi, headJ 1 t' ks.length xs.length wi = (ze && (ks.length == 0 && xs.length == 0)) := fun wi => by unfold headJ; rw [if_pos (by omega), hz]
    rw [e]
    cases ze with
    | false => exact rs_text1 t' A1 A2 _ c1 _ c2 ht n hv hz
    | true => exact rs_word1 t' A1 A2 _ c1 _ c2 ht n hv hz
  · have e : ∀ wi, headJ 2 t' ks.length xs.length wi = (ze && (ks.length == 0 && xs.length == 0)) := fun wi => by unfold headJ; rw [if_pos (by omega), hz]
    rw [e]
    cases ze with
    | false => exact rs_text2 t' A1 A2 _ c1 _ c2 ht n hv hz
    | true => exact rs_word2 t' A1 A2 _ c1 _ c2 ht n hv hz
  · have e : ∀ wi, headJ 3 t' ks.length xs.length wi = (ze && (ks.length == 0 && xs.length == 0)) := fun wi => by unfold headJ; rw [if_pos (by omega), hz]
    rw [e]
    cases ze with
    | false => exact rs_text3 t' A1 A2 _ c1 _ c2 ht n hv hz
    | true => exact rs_word3 t' A1 A2 _ c1 _ c2 ht n hv hz
  · obtain ⟨vm, hm⟩ : ∃ z, numB t'.data.toList = z := ⟨_, rfl⟩
    have e : ∀ wi, headJ 4 t' ks.length xs.length wi = (vm && (ks.length == 0 && xs.length == 0)) := fun wi => by unfold headJ; rw [if_neg (by omega), if_pos rfl, hm]
    rw [e]
    cases vm with
    | false => exact rs_num_no t' A1 A2 _ c1 _ c2 ht n hv hm
    | true => exact rs_num t' A1 A2 _ c1 _ c2 ht n hv hm
  · have e : ∀ wi, headJ 5 t' ks.length xs.length wi = (ks.length == 0 && xs.length == 0) := fun wi => by unfold headJ; rw [if_neg (by omega), if_neg (by omega), if_pos rfl, hv]; rfl
    rw [e]
    exact rs_str t' A1 A2 _ c1 _ c2 ht n hv
  · have e : ∀ wi, headJ 6 t' ks.length xs.length wi = (ze && (ks.length == 0 && wi)) := fun wi => by unfold headJ; rw [if_neg (by omega), if_neg (by omega), if_neg (by omega), if_pos rfl, hz]
    rw [e]
    cases ze with
    | false => exact rs_text6 t' A1 A2 _ c1 _ c2 ht n hv hz
    | true =>
      cases n with
      | zero => rw [Bool.and_false]; exact rs_deep6 t' A1 A2 _ c1 _ c2 ht _ hv hz rfl
      | succ m =>
        have hn0 : (((m + 1 : Nat) : Int) == 0) = false := by rw [beq_eq_false_iff_ne]; omega
        by_cases ha : ks.length = 0
        · rw [show (ks.length == 0) = true by simp [ha], Bool.true_and, Bool.true_and]
          exact rs_loops6 (by omega) (IH m rfl) t' ht hv hz ha hk1 hx1 hF hks hxs hkm hsm
        · rw [show (ks.length == 0) = false by simp [ha], Bool.false_and, Bool.and_false]
          exact rs_keys6 t' A1 A2 _ c1 _ c2 ht _ hv hz hn0 (by omega)
  · have e : ∀ wi, headJ 7 t' ks.length xs.length wi = (ze && (ks.length == xs.length && wi)) := fun wi => by unfold headJ; rw [if_neg (by omega), if_neg (by omega), if_neg (by omega), if_neg (by omega), if_pos rfl, hz]
    rw [e]
    cases ze with
    | false => exact rs_text7 t' A1 A2 _ c1 _ c2 ht n hv hz
    | true =>
      cases n with
      | zero => rw [Bool.and_false]; exact rs_deep7 t' A1 A2 _ c1 _ c2 ht _ hv hz rfl
      | succ m =>
        have hn0 : (((m + 1 : Nat) : Int) == 0) = false := by rw [beq_eq_false_iff_ne]; omega
        by_cases ha : ks.length = xs.length
        · rw [show (ks.length == xs.length) = true by simp [ha], Bool.true_and, Bool.true_and]
          exact rs_loops7 (by omega) (IH m rfl) t' ht hv hz ha hk1 hx1 hF hks hxs hkm hsm
        · rw [show (ks.length == xs.length) = false by simp [ha], Bool.false_and, Bool.and_false]
          exact rs_keys7 t' A1 A2 _ c1 _ c2 ht _ hv hz hn0 ha
theorem rsound_any : ∀ n : Nat, n ≤ 1000 → RSoundAt n
  | 0, h => rsound_of h fun m e => by omega
  | n + 1, h => rsound_of h fun m e => by cases e; exact rsound_any n (by omega)
end Go.Proofs.YtmjooghfghmngaaDoor
