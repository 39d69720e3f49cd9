/- The contracts of the program's call Good and of the document's own: whether all points of a slice are within the limits. -/
import Derived.Test.YtkkdjbmdfpmkpaaGeo2
namespace Go.Proofs.Ytkkdjbmdfpmkpaa
open Go.RowKit

/-- A slice of points that reads as a list. -/
def Pts (w : World) (B : Nat) (A : Option Addr) (ps : List (Int × Int)) : Prop :=
  0 < ps.length → ∃ ad, A = some ad ∧ ad.block < B ∧ ∀ k p, ps[k]? = some p → w.cell? (ad.add (k * 2)) = some (.int .i64 p.1) ∧ w.cell? ((ad.add (k * 2)).add 1) = some (.int .i64 p.2)
theorem Pts.on {w w' : World} {A : Option Addr} {ps : List (Int × Int)} (h : Pts w w.heap.size A ps) (hb : Below w.heap.size w w') : Pts w' w'.heap.size A ps := by
  intro hp
  obtain ⟨ad, e, hlt, hc⟩ := h hp
  refine ⟨ad, e, Nat.lt_of_lt_of_le hlt hb.size, fun k p hk => ?_⟩
  obtain ⟨c0, c1⟩ := hc k p hk
  exact ⟨(hb.cell (by rw [block_of_add]; exact hlt)).trans c0, (hb.cell (by rw [block_of_add, block_of_add]; exact hlt)).trans c1⟩
/-- A point of a slice, behind calls that make memory: what a load reads. -/
theorem Pts.at {w wr : World} {A : Option Addr} {ps : List (Int × Int)} (h : Pts w w.heap.size A ps) (hb : Below w.heap.size w wr) {k : Nat} (hk : k < ps.length) : ∃ ad, A = some ad ∧ ad.block < w.heap.size ∧ wr.cell? (ad.add (k * 2)) = some (.int .i64 ps[k].1) ∧ wr.cell? ⟨(ad.add (k * 2)).block, (ad.add (k * 2)).off + 1, none⟩ = some (.int .i64 ps[k].2) := by
  obtain ⟨ad, rfl, hadb, hc⟩ := h (by omega)
  have hp : ps[k]? = some ps[k] := List.getElem?_eq_getElem hk
  obtain ⟨c0, c1⟩ := hc k _ hp
  refine ⟨ad, rfl, hadb, (hb.cell (by rw [block_of_add]; exact hadb)).trans c0, ?_⟩
  have := (hb.cell (p := (ad.add (k * 2)).add 1) (by rw [block_of_add, block_of_add]; exact hadb)).trans c1
  simpa [Addr.add] using this

theorem gd_wth (p : Int × Int) : gd p = (wth p.1 (-1073741824) 1073741824 && wth p.2 (-1073741824) 1073741824) := by
  unfold gd wth
  rw [Bool.eq_iff_iff, decide_eq_true_iff]
  simp only [Bool.and_eq_true, decide_eq_true_eq]
  unfold Gd
  omega
theorem gd_iff {p : Int × Int} : gd p = true ↔ Gd p := by unfold gd; exact decide_eq_true_iff
theorem gdL_cons (p : Int × Int) (ps : List (Int × Int)) : gdL (p :: ps) = (gd p && gdL ps) := rfl

set_option maxHeartbeats 800000 in
theorem good_any (ps : List (Int × Int)) (A : Option Addr) (cap : Nat) (w : World) (hn : ps.length ≤ maxLen) (hr : Pts w w.heap.size A ps) :
    Calls Try.prog 25 #[.slice A ps.length cap] w fun e w' => e = .returned (.bool (gdL ps)) ∧ Below w.heap.size w w' := by
  unfold maxLen at hn
  go_enter Try.func25, Try.ntmps25
  go_wp2
  go_loopw [7] (fun i wr => ∃ k : Nat, k ≤ ps.length ∧ i = .int .i64 k ∧ gdL ps = gdL (ps.drop k) ∧ Below w.heap.size w wr) (fun i _ => ps.length - (intOf i).toNat)
  case atStart => exact ⟨0, Nat.zero_le _, rfl, rfl, by go_grown⟩
  case round =>
    obtain ⟨k, hk, rfl, hall, hB⟩ := hrel
    by_cases hlt : k < ps.length
    · obtain ⟨ad, rfl, hadb, d0, d1⟩ := hr.at hB hlt
      have hdrop : ps.drop k = ps[k] :: ps.drop (k + 1) := List.drop_eq_getElem_cons hlt
      rw [hdrop, gdL_cons, gd_wth] at hall
      clear hr hdrop
      generalize ps[k] = p at *
      cases h1 : wth p.1 (-1073741824) 1073741824
      · have HG : Hid (gdL ps = false) := by unfold Hid; rw [hall, h1]; rfl
        clear hall
        go_wp2_with fail
        go_at_call 47
        refine (within_any _ _ _ _).mono ?_
        rintro e w2 ⟨rfl, rfl⟩
        go_wp2
        go_ret
        rw [HG.out]
        exact ⟨rfl, hB.alloc hB.size _⟩
      · cases h2 : wth p.2 (-1073741824) 1073741824
        · have HG : Hid (gdL ps = false) := by unfold Hid; rw [hall, h1, h2]; rfl
          clear hall
          go_wp2_with fail
          go_at_call 47
          refine (within_any _ _ _ _).mono ?_
          rintro e w2 ⟨rfl, rfl⟩
          go_wp2_with fail
          go_at_call 47
          refine (within_any _ _ _ _).mono ?_
          rintro e w2 ⟨rfl, rfl⟩
          go_wp2
          go_ret
          rw [HG.out]
          exact ⟨rfl, hB.alloc hB.size _⟩
        · have HG : Hid (gdL ps = gdL (ps.drop (k + 1))) := by unfold Hid; rw [hall, h1, h2]; rfl
          clear hall
          go_wp2_with fail
          go_at_call 47
          refine (within_any _ _ _ _).mono ?_
          rintro e w2 ⟨rfl, rfl⟩
          go_wp2_with fail
          go_at_call 47
          refine (within_any _ _ _ _).mono ?_
          rintro e w2 ⟨rfl, rfl⟩
          go_wp2
          exact ⟨⟨k + 1, by omega, by go_num, HG.out, hB.alloc hB.size _⟩, by simp [intOf]; omega⟩
    · obtain rfl : k = ps.length := by omega
      have HG : Hid (gdL ps = true) := by unfold Hid; rw [hall, List.drop_length]; rfl
      clear hall
      go_wp2
      go_ret
      rw [HG.out]
      exact ⟨rfl, hB⟩
end Go.Proofs.Ytkkdjbmdfpmkpaa
