/- The law WideTells: the sign, the digits, and which of two is greater. -/
import Derived.Test.YtchhhaiokpecjaaDoorFrame
import Derived.Test.YtchhhaiokpecjaaDoorHas
import Derived.Test.YtchhhaiokpecjaaDoorRefTell
import Derived.Test.YtchhhaiokpecjaaDoorRefText
import Derived.Deep.DeepCutAuto
namespace Go.Proofs.YtchhhaiokpecjaaDoor.wideTells
open Go.RowKit
variable {a a' b b' : Int}

set_option maxRecDepth 100000 in
set_option maxHeartbeats 4000000 in
theorem law_walk (va : Wf a a') (w : World) (htab : Lib.TabBelow Tryd.prog w.heap.size w "internal/strconv.uint64pow10" .u64 Lib.pow10Tab) :
    Calls Tryd.prog 6 #[.agg #[.int .i64 a, .int .u64 a'], .agg #[.int .i64 b, .int .u64 b']] w fun e w' => e = .returned (.bool true) ∧ Below w.heap.size w w' := by
  go_enter Tryd.func6, Tryd.ntmps6
  go_upto_region 1 with (fail)
  have HS := ((Has.refl w).new a a').new' b b' (n := w.heap.size + 1) (by simp)
  generalize ((w.alloc _).alloc _) = W at HS ⊢
  generalize w.heap.size + 1 = g1 at *
  have C0 := Lib.hid (fun (W' : World) (h : Has w [(g1, b, b'), (w.heap.size, a, a')] W') => answers_any W' (h.tab htab))
  have C1 := Lib.hid (fun (W' : World) (h : Has w [(g1, b, b'), (w.heap.size, a, a')] W') => text_any a a' va W' (h.tab htab))
  have C2 := Lib.hid (fun W' => ref_text a a' va W')
  have C3 := Lib.hid (fun W' => ref_sign a a' va W')
  clear htab va
  go_cut [4] (fun s4 wx => s4 = .bool true ∧ Below w.heap.size w wx)
  case first =>
    go_region_held3 (fun W => W.cell? ⟨g1, 0, none⟩ = some (.int .i64 b) ∧ W.cell? ⟨g1, 1, none⟩ = some (.int .u64 b') ∧ W.cell? ⟨w.heap.size, 0, none⟩ = some (.int .i64 a) ∧ W.cell? ⟨w.heap.size, 1, none⟩ = some (.int .u64 a'))
      ((first | exact Has.cells2 (by assumption) | exact Has.cells2 (Has.drew (by assumption))))
      (first
        | (go_at_call 10; refine (C0.out _ (by first | assumption | exact Has.drew (by assumption))).mono ?_; rintro e w' ⟨rfl, hB⟩; have HS' := Has.on (by first | assumption | exact Has.drew (by assumption)) hB)
        | (go_at_call 21; refine (sign_any _ _ _).mono ?_; rintro e w' ⟨rfl, hB⟩; have HS' := Has.on (by first | assumption | exact Has.drew (by assumption)) hB)
        | (go_at_call 22; refine (C3.out _).mono ?_; rintro e w' ⟨rfl, hB⟩; have HS' := Has.on (by first | assumption | exact Has.drew (by assumption)) hB)
        | (go_at_call 23; refine (compare_any _ _ _ _ _).mono ?_; rintro e w' ⟨rfl, hB⟩; have HS' := Has.on (by first | assumption | exact Has.drew (by assumption)) hB)
        | (go_at_call 24; refine (ref_compare _ _ _ _ _).mono ?_; rintro e w' ⟨rfl, hB⟩; have HS' := Has.on (by first | assumption | exact Has.drew (by assumption)) hB)
        | (go_at_call 25; refine (C1.out _ (by first | assumption | exact Has.drew (by assumption))).mono ?_; rintro e w' ⟨rfl, hB⟩; have HS' := Has.on (by first | assumption | exact Has.drew (by assumption)) hB)
        | (go_at_call 26; refine (C2.out _).mono ?_; rintro e w' ⟨rfl, hB⟩; have HS' := Has.on (by first | assumption | exact Has.drew (by assumption)) hB))
    all_goals
      go_wp2_with fail
      go_meet
      exact ⟨rfl, And.left (show Has w [(g1, b, b'), (w.heap.size, a, a')] _ by assumption)⟩
  case rest =>
    obtain ⟨rfl, hb⟩ := hcut
    go_wp2
    go_ret
    exact ⟨rfl, hb⟩
end Go.Proofs.YtchhhaiokpecjaaDoor.wideTells
