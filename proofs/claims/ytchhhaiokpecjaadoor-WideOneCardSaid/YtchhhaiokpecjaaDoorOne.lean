/- The law WideOne: a number as one of 128 bits, and the product of any two. -/
import Derived.Test.YtchhhaiokpecjaaDoorFrame
import Derived.Test.YtchhhaiokpecjaaDoorRefMul
namespace Go.Proofs.YtchhhaiokpecjaaDoor.wideOne
open Go.RowKit

set_option maxRecDepth 100000 in
set_option maxHeartbeats 2000000 in
theorem law_walk (a b : Int) (ha1 : -9223372036854775808 ≤ a) (ha2 : a ≤ 9223372036854775807) (hb1 : -9223372036854775808 ≤ b) (hb2 : b ≤ 9223372036854775807) (w : World) (htab : Lib.TabBelow Tryd.prog w.heap.size w "internal/strconv.uint64pow10" .u64 Lib.pow10Tab) :
    Calls Tryd.prog 3 #[.int .i64 a, .int .i64 b] w fun e w' => e = .returned (.bool true) ∧ Below w.heap.size w w' := by
  have C1 := Lib.hid (fun W => of_any a W ha1 ha2)
  have C2 := Lib.hid (fun W => ref_of a W ha1 ha2)
  have C3 := Lib.hid (fun W => mul_any a b W ha1 ha2 hb1 hb2)
  have C4 := Lib.hid (fun W => ref_mul a b ha1 ha2 hb1 hb2 W)
  clear ha1 ha2 hb1 hb2
  go_enter Tryd.func3, Tryd.ntmps3
  go_wp2_with (first
    | (go_at_call 10; go_must (refine (answers_any _ htab).mono ?_; rintro e w1 ⟨rfl, hB1⟩))
    | (go_at_call 11; go_must (refine (C1.out _).mono ?_; rintro e w2 ⟨rfl, hB2⟩))
    | (go_at_call 12; go_must (refine (C2.out _).mono ?_; rintro e w3 ⟨rfl, hB3⟩))
    | (go_at_call 13; go_must (refine (C3.out _).mono ?_; rintro e w4 ⟨rfl, hB4⟩))
    | (go_at_call 14; go_must (refine (C4.out _).mono ?_; rintro e w5 ⟨rfl, hB5⟩)))
  go_ret
  have B2 := hB1.trans (hB2.mono hB1.size)
  have B3 := B2.trans (hB3.mono B2.size)
  have B4 := B3.trans (hB4.mono B3.size)
  exact ⟨rfl, B4.trans (hB5.mono B4.size)⟩
end Go.Proofs.YtchhhaiokpecjaaDoor.wideOne
