/- A builder of the call's own takes one rune more. -/
import Derived.Test.YtmjooghfghmngaaDoorJEsc
import Derived.Lib.OthersKept
import Derived.Shelf.Strings.BuilderX
namespace Go.Proofs.YtmjooghfghmngaaDoor
open Go.RowKit Go.Shelf Go.Lib

theorem bldInfo : ∃ j, Tryd.prog.info? 82 = some j ∧ j.size = 2 := Option.map_eq_some_iff.1 (show (Tryd.prog.info? 82).map (·.size) = some 2 by kernel_rfl)

set_option maxHeartbeats 1000000 in
set_option maxRecDepth 100000 in
theorem check_any {B g : Nat} {bs : List Value} {w : World} (h : IsBuilderF 82 5 B g bs w) :
    Calls Tryd.prog 72 #[.pointer (some ⟨g, 0, none⟩)] w fun e w' => e = .returned (.tuple #[]) ∧ BuilderAtF 82 5 B g (.pointer (some ⟨g, 0, none⟩)) bs w' ∧ w.grownBy w' (some g) := by
  obtain ⟨j, hj, hjs⟩ := bldInfo
  rcases h with h | h
  · have c0 := h.cell0
    have f0 := h.frozen0
    have hsh := h.shape
    have u1 := fun W (hW : W.shape? g = some (82, 2)) => Lib.run_to_unsafe (P := Tryd.prog) W ⟨g, 0, none⟩ Tryd.underlying80 Tryd.underlying112 hj (by rw [hjs]; decide) hW (Nat.zero_lt_succ 1)
    have u2 := run_callFunc_extern (P := Tryd.prog) Tryd.func85 (by kernel_rfl) (by kernel_rfl) (by kernel_rfl) (e := Extern.AbiNoEscape.same) (by kernel_rfl)
    have u3 := Lib.run_from_unsafe (P := Tryd.prog) w ⟨g, 0, none⟩ Tryd.underlying112 Tryd.underlying80 hj hsh (by kernel_rfl)
    have u1 := u1 w hsh
    have u4 := fun (x : Value) (W : World) => Lib.run_noEscape (P := Tryd.prog) (w := W) x
    go_enter Tryd.func72, Tryd.ntmps72
    go_wp2_with fail
    refine bodyPost_end (results_none rfl _ _ _) rfl ?_
    exact ⟨rfl, h.used _, grew_set (World.grownBy.refl w _) 0 _⟩
  · have c0 := h.cell0
    have u5 := Lib.run_neq_ptr_same (P := Tryd.prog) (w := w) ⟨g, 0, none⟩ Tryd.underlying80 hj
    go_enter Tryd.func72, Tryd.ntmps72
    go_wp2_with fail
    refine bodyPost_end (results_none rfl _ _ _) rfl ?_
    exact ⟨rfl, h, World.grownBy.refl w _⟩

theorem row_slice {B : Nat} {v : Value} {n : Nat} {xs : List Value} {w : World} (h : w.ownsRowF B 5 1 v n xs) : ∃ A c, v = .slice A n c := by
  rcases h.2 with ⟨hv, h0⟩ | ⟨_, c, _, _, hv, _⟩
  · exact ⟨none, 0, by rw [hv, h0]⟩
  · exact ⟨_, c, hv⟩

set_option maxHeartbeats 2000000 in
theorem writeRune_any {B g : Nat} {bs : List Value} {w : World} (r : Int) (h : IsBuilderF 82 5 B g bs w) (hr0 : 0 ≤ r) (hr1 : r ≤ 1114111) (hlen : bs.length + 4 ≤ 140737488355328) (hB : B ≤ w.heap.size) :
    Calls Tryd.prog 57 #[.pointer (some ⟨g, 0, none⟩), .int .i32 r] w fun e w' => e = .returned (.tuple #[.int .i64 (runeCells r).length, .nilIface]) ∧ IsBuilderF 82 5 B g (bs ++ runeCells r) w' ∧ Below B w w' := by
  have HC := Lib.hid (check_any h)
  have HL := Lib.hid (runeCells_le r)
  obtain ⟨n, hn⟩ : ∃ n, (runeCells r).length = n := ⟨_, rfl⟩
  have hn1 := runeCells_le r
  rw [hn] at hn1
  rw [hn]
  have HN := Lib.hid hn
  have hBg : B ≤ g := by rcases h with h | h <;> exact h.1
  clear hn h
  go_enter Tryd.func57, Tryd.ntmps57
  go_wp2_with fail
  go_at_call 72
  refine HC.out.mono ?_
  rintro e' w1 ⟨rfl, ⟨-, v, hb, hown, hne⟩, hG1⟩
  obtain ⟨A, c, rfl⟩ := row_slice hown
  have c1 := blk_cell hb 1
  have HA := Lib.hid (Tryd.utf8_AppendRune_row B _ bs.length bs r (by omega) (by omega) w1 hown hlen (Nat.le_trans hB hG1.size))
  have HOW := Lib.hid hown
  have HNE := Lib.hid hne
  have HG1 := Lib.hid hG1
  have HB1 := Lib.hid hb
  clear hown hne hG1 hb HC
  have c1 : w1.cell? ⟨g, 1, none⟩ = some (.slice A bs.length c) := c1
  have HX := Lib.hid (fun (w2 : World) (o : Obj) (hgr : (w1.alloc o).grownBy w2 (Value.ownBlock (.slice A bs.length c))) => (by
    have hlt := blk_lt HB1.out
    exact (hgr.block g (by simp; omega) (fun e => HNE.out e.symm)).trans (blk_alloc HB1.out o) : w2.heap[g]? = some (.cells #[.pointer (some ⟨g, 0, none⟩), .slice A bs.length c] 82 (0, 0))))
  have hw1 : bs.length + n ≤ 9223372036854775807 := by omega
  go_wp2_with (go_at_call 73; go_must (refine HA.out.mono ?_; rintro e' w2 ⟨v', rfl, hown', o, hgr⟩; rw [HN.out] at hown'; obtain ⟨A2, c2, rfl⟩ := row_slice hown'; have hb2 := HX.out _ _ hgr; have d0 := blk_cell hb2 0; have d1 : w2.cell? ⟨g, 1, none⟩ = some (.slice A bs.length c) := blk_cell hb2 1; have d2 := blk_frozen hb2 1; have HB2 := Lib.hid hb2; have HOW2 := Lib.hid hown'; have HGR := Lib.hid hgr; clear hown' hgr hb2 d0))
  go_ret2
  refine ⟨?_, ?_, ?_⟩
  · simp
    omega
  · refine .inr (BuilderAtF.put (T := 82) (e := 5) hBg HB2.out (bs' := bs ++ runeCells r) ?_ (by decide))
    have := HOW2.out
    rwa [show (bs ++ runeCells r).length = bs.length + n by rw [List.length_append, HN.out]]
  · have h1 : Below B w w1 := ⟨HG1.out.os, HG1.out.tape, HG1.out.output, HG1.out.size, fun k hk => HG1.out.block k (by omega) (by simp; omega)⟩
    have h2 : B ≤ w1.heap.size := Nat.le_trans hB HG1.out.size
    exact ((h1.alloc h2 o).grown HGR.out (by simp; omega) (fun k hk => (HOW.out.lt k hk).1)).setCell (p := ⟨g, 1, none⟩) hBg _
end Go.Proofs.YtmjooghfghmngaaDoor
