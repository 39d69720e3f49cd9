/- The law RingChecks: which rings are sound, and their areas. -/
import Derived.Test.YtkkdjbmdfpmkpaaRingAns
namespace Go.Proofs.Ytkkdjbmdfpmkpaa.ringChecks
open Go.RowKit

set_option maxRecDepth 100000 in
set_option maxHeartbeats 2000000 in
theorem law_walk (ps : List (Int × Int)) (A : Option Addr) (cap : Nat) (hb : ps.length * 16 ≤ 140737488355328) (hnil : NilOk A cap) (w : World) (hr : Pts w w.heap.size A ps) :
    Calls Try.prog 3 #[.slice A ps.length cap] w fun e w' => e = .returned (.bool true) ∧ Below w.heap.size w w' := by
  have HN := Lib.hid (show ps.length ≤ maxLen by unfold maxLen; omega)
  have HR := Lib.hid hr
  have HO := Lib.hid hnil
  have HBB := Lib.hid hb
  clear hr hnil hb
  go_enter Try.func3, Try.ntmps3
  go_wp2_with fail
  go_at_call 10
  refine (own_any ps A cap _ HR.out HO.out HBB.out).mono ?_
  rintro e w1 ⟨v, rfl, HV⟩
  obtain ⟨A1, c1, rfl, hp1⟩ := HV.pts
  have HQ := (Hold.refl w).on HV.1
  have HP1 := Lib.hid hp1
  clear HV hp1
  go_wp2_with fail
  go_at_call 9
  refine (Area_any ps A1 c1 HN.out _ HP1.out).mono ?_
  rintro e w2 ⟨rfl, hB⟩
  replace HQ := (HQ.on hB).new #[.int .i64 (arH ps), .int .u64 (arL ps)] 26
  clear hB HP1
  go_upto_region 2 with (fail)
  generalize (World.alloc w2 _) = W2 at HQ ⊢
  generalize w2.heap.size = g3 at HQ ⊢
  go_wp2_with fail
  go_at_call 11
  refine (ref_area ps A cap HN.out _ (HR.out.on HQ.1)).mono ?_
  rintro e w3 ⟨rfl, hB⟩
  replace HQ := (HQ.on hB).new #[.int .i64 (arH ps), .int .u64 (arL ps)] 26
  clear hB
  go_upto_region 3 with (fail)
  generalize (World.alloc w3 _) = W3 at HQ ⊢
  generalize w3.heap.size = g5 at HQ ⊢
  go_wp2_with fail
  go_at_call 12
  refine (ring_answers _).mono ?_
  rintro e w4 ⟨rfl, hB⟩
  replace HQ := HQ.on hB
  clear hB
  obtain ⟨f0, f1, f2, f3⟩ := HQ.rd2
  go_wp2_with fail
  go_at_call 10
  refine (own_any ps A cap _ (HR.out.on HQ.1) HO.out HBB.out).mono ?_
  rintro e w5 ⟨v, rfl, HV⟩
  obtain ⟨A1, c1, rfl, hp1⟩ := HV.pts
  replace HQ := HQ.bare.on HV.1
  have HP1 := Lib.hid hp1
  clear HV hp1 f0 f1 f2 f3
  go_wp2_with fail
  go_at_call 13
  refine (Check_any ps A1 c1 HN.out _ HP1.out).mono ?_
  rintro e w6 ⟨rfl, hB⟩
  replace HQ := HQ.on hB
  clear hB HP1
  go_wp2_with fail
  go_at_call 14
  refine (ref_check ps A cap HN.out _ (HR.out.on HQ.1)).mono ?_
  rintro e w7 ⟨rfl, hB⟩
  have HK := Lib.hid (HQ.on hB).1
  clear hB HQ
  go_wp2
  go_ret
  exact ⟨rfl, HK.out⟩
end Go.Proofs.Ytkkdjbmdfpmkpaa.ringChecks
