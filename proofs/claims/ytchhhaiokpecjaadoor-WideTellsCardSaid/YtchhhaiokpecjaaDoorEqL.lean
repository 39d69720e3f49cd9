/- Whether five parts are all nought. -/
import Derived.Test.YtchhhaiokpecjaaDoorRefB
import Derived.DeepKeys
namespace Go.Proofs.YtchhhaiokpecjaaDoor
open Go.RowKit
theorem eq_limbs (a b c d e : Int) (w : World) : (Op.equalIn 10000 50 (.agg #[.int .u32 a, .int .u32 b, .int .u32 c, .int .u32 d, .int .u32 e]) (.agg #[.int .u32 0, .int .u32 0, .int .u32 0, .int .u32 0, .int .u32 0])).run Tryd.prog w = .ok (a == 0 && (b == 0 && (c == 0 && (d == 0 && e == 0)))) w := by
  obtain ⟨i, hi⟩ := info_of_underlying (P := Tryd.prog) Tryd.underlying48
  rw [show (10000 : Nat) = 9999 + 1 from rfl, run_equalIn_array w 9999 _ _ Tryd.underlying50 hi]
  have hc : Tryd.prog.cellsOf 48 = 1 := by kernel_rfl
  rw [hc, show List.range 5 = [0, 1, 2, 3, 4] from rfl]
  simp only [Op.eqItems]
  go_simp
  have u := Tryd.underlying48
  by_cases ha : a = 0 <;> by_cases hb : b = 0 <;> by_cases hc' : c = 0 <;> by_cases hd : d = 0 <;> by_cases he : e = 0 <;> simp [ha, hb, hc', hd, he]
end Go.Proofs.YtchhhaiokpecjaaDoor
