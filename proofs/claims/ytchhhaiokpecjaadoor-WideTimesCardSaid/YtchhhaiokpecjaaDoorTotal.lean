/- The law WideTotal: the sum of many, one after the other. -/
import Derived.Test.YtchhhaiokpecjaaDoorFrame
import Derived.Test.YtchhhaiokpecjaaDoorHas
import Derived.Test.YtchhhaiokpecjaaDoorRefTot
import Derived.Laws.AppendOwnNone
import Derived.WalkKit
namespace Go.Proofs.YtchhhaiokpecjaaDoor.wideTotal
open Go.RowKit

/-- The cells of a list of pairs. -/
def flat : List (Int × Int) → List Value
  | [] => []
  | p :: ps => .int .i64 p.1 :: .int .u64 p.2 :: flat ps
theorem flat_length : ∀ ps, (flat ps).length = ps.length * 2
  | [] => rfl
  | p :: ps => by simp only [flat, List.length_cons, flat_length ps]; omega
theorem flat_get : ∀ (ps : List (Int × Int)) (k : Nat), (flat ps)[k * 2]? = (ps[k]?).map (fun p => .int .i64 p.1) ∧ (flat ps)[k * 2 + 1]? = (ps[k]?).map (fun p => .int .u64 p.2)
  | [], k => by simp [flat]
  | p :: ps, 0 => by simp [flat]
  | p :: ps, k + 1 => by
    have h := flat_get ps k
    rw [show (k + 1) * 2 = k * 2 + 1 + 1 by omega]
    simpa [flat] using h
theorem flat_one : ∀ (ps : List (Int × Int)), ∀ u ∈ flat ps, u.oneCell' = true
  | [], u, h => by cases h
  | p :: ps, u, h => by
    simp only [flat, List.mem_cons] at h
    rcases h with rfl | rfl | h
    · rfl
    · rfl
    · exact flat_one ps u h
theorem flat_cells {w : World} {B : Nat} {ad : Addr} {ps : List (Int × Int)} (hr : Pairs w B (some ad) ps) : ∀ j u, (flat ps)[j]? = some u → w.cell? (ad.add j) = some u := by
  intro j u hu
  have hlt : j < (flat ps).length := (List.getElem?_eq_some_iff.1 hu).1
  rw [flat_length] at hlt
  obtain ⟨ad', e, -, hc⟩ := hr (by omega)
  obtain rfl : ad = ad' := Option.some.inj e
  have hk : j / 2 < ps.length := by omega
  have hp : ps[j / 2]? = some ps[j / 2] := List.getElem?_eq_getElem hk
  obtain ⟨c0, c1⟩ := hc _ _ hp
  obtain ⟨g0, g1⟩ := flat_get ps (j / 2)
  rw [hp] at g0 g1
  rcases Nat.mod_two_eq_zero_or_one j with hm | hm
  · rw [show j / 2 * 2 = j by omega] at g0 c0
    rw [hu] at g0
    rw [c0]; exact g0.symm
  · rw [show j / 2 * 2 + 1 = j by omega, hu] at g1
    have e1 : (ad.add (j / 2 * 2)).add 1 = ad.add j := by
      rw [Go.Deep.add_add, show j / 2 * 2 + 1 = j by omega]
    rw [e1] at c1
    rw [c1]; exact g1.symm

theorem alloc_below (w : World) (o : Obj) : Below w.heap.size w (w.alloc o) := (Below.refl _ w).alloc (Nat.le_refl _) _
theorem flat_block {w : World} {B : Nat} {ad : Addr} {ps : List (Int × Int)} (hr : Pairs w B (some ad) ps) {j : Nat} {u : Value} (hu : (flat ps)[j]? = some u) : (ad.add j).block < B := by
  have hlt : j < (flat ps).length := (List.getElem?_eq_some_iff.1 hu).1
  rw [flat_length] at hlt
  obtain ⟨ad', e, hb, -⟩ := hr (by omega)
  obtain rfl : ad = ad' := Option.some.inj e
  rw [block_of_add]
  exact hb
theorem own_pairs {w : World} {B : Nat} {v : Value} {ps : List (Int × Int)} (h : w.ownsRow B 25 2 v ps.length (flat ps)) : ∃ A cap, v = .slice A ps.length cap ∧ Pairs w w.heap.size A ps := by
  have hc := fun g (hg : v.ownBlock = some g) => h.cells hg
  obtain ⟨hl, ⟨rfl, h0⟩ | ⟨g, cap, cur, rfl, hb, hg, -⟩⟩ := h
  · exact ⟨none, 0, by rw [h0], fun hp => absurd hp (by omega)⟩
  · refine ⟨some ⟨g, 0, none⟩, cap, rfl, fun _ => ⟨_, rfl, blk_lt hg, fun k p hp => ?_⟩⟩
    have hc := hc g rfl
    obtain ⟨g0, g1⟩ := flat_get ps k
    rw [hp] at g0 g1
    exact ⟨hc _ _ g0, by rw [Go.Deep.add_add]; exact hc _ _ g1⟩
theorem Pairs.on {w w' : World} {A : Option Addr} {ps : List (Int × Int)} (h : Pairs w w.heap.size A ps) (hb : Below w.heap.size w w') : Pairs w' w'.heap.size A ps := by
  intro hp
  obtain ⟨ad, e, hlt, hc⟩ := h hp
  refine ⟨ad, e, Nat.lt_of_lt_of_le hlt hb.size, fun k p hk => ?_⟩
  obtain ⟨c0, c1⟩ := hc k p hk
  exact ⟨(hb.cell (by rw [block_of_add]; exact hlt)).trans c0, (hb.cell (by rw [block_of_add, block_of_add]; exact hlt)).trans c1⟩
theorem grown_below {w W w' : World} {row : Option Nat} (hb : Below w.heap.size w W) (hg : W.grownBy w' row) (hr : ∀ k, row = some k → w.heap.size ≤ k) : Below w.heap.size w w' :=
  ⟨hg.os.trans hb.os, hg.tape.trans hb.tape, hg.output.trans hb.output, Nat.le_trans hb.size hg.size, fun k hk => (hg.block k (Nat.lt_of_lt_of_le hk hb.size) (fun e => by have := hr k e.symm; omega)).trans (hb.block k hk)⟩
theorem infoI : (Tryd.prog.info? 25).map (fun i => (i.zero, i.size, i.bytes)) = some (some (.agg #[.int .i64 0, .int .u64 0]), 2, 16) := by kernel_rfl

set_option maxRecDepth 100000 in
set_option maxHeartbeats 2000000 in
theorem law_walk (ps : List (Int × Int)) (A : Option Addr) (cap : Nat) (hn : ps.length * 16 ≤ 140737488355328) (hnil : A = none → cap = 0) (w : World) (hr : Pairs w w.heap.size A ps) (hwf : ∀ p ∈ ps, Wf p.1 p.2) (htab : Lib.TabBelow Tryd.prog w.heap.size w "internal/strconv.uint64pow10" .u64 Lib.pow10Tab) :
    Calls Tryd.prog 5 #[.slice A ps.length cap] w fun e w' => e = .returned (.bool true) ∧ Below w.heap.size w w' := by
  obtain ⟨i0, hi, hz0, hz1, hz2⟩ := info_parts infoI
  have hmax : ps.length ≤ maxLen := by unfold maxLen; omega
  have HM := Lib.hid hmax
  have HN := Lib.hid hn
  have HR := Lib.hid hr
  have HW := Lib.hid hwf
  have HT := Lib.hid htab
  have HZ := Lib.hid hnil
  have hown := World.ownsRow_made (base := w.heap.size) (e := 25) (size := 2) w #[] 0 (Nat.le_refl _) (by unfold maxLen; omega) rfl
  have HO := Lib.hid hown
  clear hn hr hwf htab hmax hnil hown
  go_enter Tryd.func5, Tryd.ntmps5
  go_upto_region 1 with (fail)
  go_cut [3, 4] (fun s3 s4 wx => ∃ g3, s3 = .pointer (some ⟨g3, 0, none⟩) ∧ s4 = .int .i64 (tE ps) ∧ Has w [(g3, tH ps, tL ps)] wx)
  case first =>
    cases A with
    | none =>
      obtain rfl : ps = [] := by
        cases ps with
        | nil => rfl
        | cons p q => obtain ⟨_, e, _⟩ := HR.out (by simp); cases e
      obtain rfl := HZ.out rfl
      have h0 : Pairs (w.alloc (Obj.cells #[] 25)) (w.alloc (Obj.cells #[] 25)).heap.size (some ⟨w.heap.size, 0, none⟩) [] := fun h => absurd h (by simp)
      have H0 := Lib.hid h0
      clear h0
      go_wp2_with (at_builtin; refine wpList_append_own_none _ rfl _ _ 35 rfl w.heap.size 25 i0 2 Tryd.underlying35 hi _ 0 [] rfl HO.out rfl ?_)
      go_at_call 19
      refine (total_any [] (some ⟨w.heap.size, 0, none⟩) 0 _ HM.out H0.out HW.out).mono ?_
      rintro e w2 ⟨rfl, hB2⟩
      go_wp2_with fail
      go_meet
      have hb1 := alloc_below w (Obj.cells #[] 25)
      exact ⟨_, rfl, rfl, Has.new (L := []) ⟨hb1.trans (hB2.mono hb1.size), fun _ h => by cases h⟩ _ _⟩
    | some ad =>
      have hc := Lib.hid (flat_cells HR.out)
      go_wp2_with (at_builtin; refine wpList_append_own _ rfl _ _ 35 rfl w.heap.size 25 i0 (.agg #[.int .i64 0, .int .u64 0]) 2 16 Tryd.underlying35 hi hz0 hz1 hz2 rfl (by decide) _ 0 [] rfl HO.out ad ps.length cap (flat ps) rfl (flat_length ps) (fun j u hj => (Below.cell (alloc_below w _) (flat_block HR.out hj)).trans (hc.out j u hj)) (flat_one ps) (by have := HM.out; omega) (by have := HN.out; omega) (by simp) ?_; intro v' w1 hown1 hgrow1 _)
      have hb1 : Below w.heap.size w w1 := grown_below (alloc_below w _) hgrow1 (fun k e => Nat.le_of_eq (Option.some.inj (show some w.heap.size = some k from e)))
      simp only [Nat.zero_add, List.nil_append] at hown1
      obtain ⟨A1, cap1, rfl, hp1⟩ := own_pairs hown1
      clear hown1 hgrow1
      go_at_call 19
      refine (total_any ps A1 cap1 w1 HM.out hp1 HW.out).mono ?_
      rintro e w2 ⟨rfl, hB2⟩
      clear hp1
      go_wp2_with fail
      go_meet
      exact ⟨_, rfl, rfl, Has.new (L := []) ⟨hb1.trans (hB2.mono hb1.size), fun _ h => by cases h⟩ _ _⟩
  case rest =>
    obtain ⟨g3, rfl, rfl, HQ⟩ := hcut
    clear HO
    go_wp2_with fail
    go_at_call 20
    refine (ref_total ps A cap _ HM.out (Pairs.on HR.out HQ.1) HW.out).mono ?_
    rintro e w3 ⟨rfl, hB3⟩
    have HQ3 := (HQ.on hB3).new (tH ps) (tL ps)
    go_upto_region 3 with (fail)
    generalize (World.alloc w3 _) = W4 at HQ3 ⊢
    generalize w3.heap.size = g5 at HQ3 ⊢
    go_wp2_with fail
    go_at_call 10
    refine (answers_any _ (HQ3.tab HT.out)).mono ?_
    rintro e w5 ⟨rfl, hB5⟩
    have HQ5 := HQ3.on hB5
    obtain ⟨c0, c1, c2, c3⟩ := HQ5.cells2
    clear HQ HQ3 hB3 hB5
    go_wp2
    go_ret
    exact ⟨rfl, HQ5.1⟩
end Go.Proofs.YtchhhaiokpecjaaDoor.wideTotal
