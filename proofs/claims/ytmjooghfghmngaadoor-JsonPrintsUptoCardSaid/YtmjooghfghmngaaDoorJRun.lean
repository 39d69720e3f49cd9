/- The reader goes on over bytes of a set. -/
import Derived.Test.YtmjooghfghmngaaDoorJBase
namespace Go.Proofs.YtmjooghfghmngaaDoor
open Go.RowKit Go.Shelf Go.Lib

theorem tabInfo : (Tryd.prog.info? 91).map (fun i => (i.zero, i.size)) = some (some (.agg (Array.replicate 256 (.bool false))), 256) := by kernel_rfl
theorem bel_drew {W W' : World} (h : Below W.drew.heap.size W.drew W') : Below W.heap.size W W' := ⟨h.os, h.tape, h.output, h.size, h.block⟩
set_option maxRecDepth 100000 in
theorem trimB_any (A : Option Addr) (n c : Nat) (bs cs : List UInt8) (w : World) (hb : bs.length = n) (hnc : n ≤ c) (hbig : c ≤ 9223372036854775807) (h1 : Lib.BytesAt w A n bs) (hcs : cs.length < 4294967281) (ha : cs.all (fun b => decide (b.toNat < 128)) = true) :
    Calls Tryd.prog 52 #[.slice A n c, .string ⟨cs.toArray⟩] w fun e w' => e = .returned (Lib.leftV A n c (n - (Lib.trimLeftS bs cs).length)) ∧ Below w.heap.size w w' := by
  have := Any.bytes_TrimLeft_ascii Tryd.layTB (zero_of_info tabInfo).1 (zero_of_info tabInfo).2 A n c bs ⟨cs.toArray⟩ w hb hnc hbig h1 (by simpa [ByteArray.size] using hcs) (ascii_of_all (by simpa using ha))
  exact this

/-- What is left of a slice behind the run, as the length tells it. -/
theorem left_len {A : Option Addr} {n c j : Nat} (hj : j ≤ n) : ∃ A' c', Lib.leftV A n c j = .slice A' (n - j) c' := by
  unfold Lib.leftV Lib.fromV
  split
  · rename_i h; subst h; exact ⟨none, 0, by simp⟩
  · exact ⟨_, _, rfl⟩

set_option maxHeartbeats 1000000 in
theorem run_any {w : World} {b : Nat} {A : Option Addr} {c : Nat} {s : List UInt8} {k a : Int} {t : ByteArray} {p : Nat} (h : Rd w b A c s k a t p) (cs : List UInt8) (hcs : cs.length < 4294967281) (ha : cs.all (fun b => decide (b.toNat < 128)) = true) :
    Calls Tryd.prog 36 #[.pointer (some ⟨b, 0, none⟩), .string ⟨cs.toArray⟩] w fun e w' => e = .returned (.string ⟨(runL s cs p).toArray⟩) ∧ Rd w' b A c s k a t (p + (runL s cs p).length) ∧ w.grownBy w' (some b) := by
  have hpos := h.pos
  have hsm := h.small
  obtain ⟨c0, c1, c2, c3, c4⟩ := h.cells
  obtain ⟨f0, f1, f2, f3, f4⟩ := h.free
  have hfrom := run_from A s.length c p hpos
  have hrl := runL_len s cs hpos
  have hlen : (s.length - p) - ((s.length - p) - (Lib.trimLeftS (s.drop p) cs).length) = s.length - (p + (runL s cs p).length) := by
    have : (s.drop p).length = (runL s cs p).length + (Lib.trimLeftS (s.drop p) cs).length := by
      unfold runL Lib.trimLeftS
      rw [← List.length_append, List.takeWhile_append_dropWhile]
    simp only [List.length_drop] at this
    omega
  obtain ⟨A', c', hv⟩ := left_len (A := advA A c p) (n := s.length - p) (c := c - p) (j := (s.length - p) - (Lib.trimLeftS (s.drop p) cs).length) (by omega)
  obtain ⟨m, hm⟩ : ∃ m, m = p + (runL s cs p).length := ⟨_, rfl⟩
  obtain ⟨r, hr⟩ : ∃ r, r = s.length - m := ⟨_, rfl⟩
  rw [hlen, ← hm, ← hr] at hv
  have HT := Lib.hid (fun W (hB : Below w.heap.size w W) => by
    have := trimB_any (advA A c p) (s.length - p) (c - p) (s.drop p) cs W (by simp) (by have := h.le; omega) (by have := h.cap; omega) (adv_bytes (h.on hB).bytes hpos h.le) hcs ha
    rw [hv] at this
    exact this.mono fun (e : Ending) W' ⟨he, hb⟩ => (⟨he, hB.trans (hb.mono hB.size)⟩ : e = Ending.returned (.slice A' r c') ∧ Below w.heap.size w W'))
  have HBR := Lib.hid (Below.refl w.heap.size w)
  have HBD : Hid (Below w.heap.size w w.drew) := ⟨rfl, rfl, rfl, Nat.le_refl _, fun _ _ => rfl⟩
  have HK := Lib.hid (fun W (hB : Below w.heap.size w W) => (⟨(h.on hB).cells.2.2.2.1, (h.on hB).free.2.2.2.2⟩ : W.cell? ⟨b, 3, none⟩ = some (.slice A s.length c) ∧ W.frozen? ⟨b, 4, none⟩ = false))
  have HKS := Lib.hid (fun W v (hB : Below w.heap.size w W) => (⟨blk_cell (blk_set (h.on hB).blk 4 v) 3, blk_frozen (blk_set (h.on hB).blk 4 v) 4⟩ : (W.setCell ⟨b, 4, none⟩ v).cell? ⟨b, 3, none⟩ = some (.slice A s.length c) ∧ (W.setCell ⟨b, 4, none⟩ v).frozen? ⟨b, 4, none⟩ = false))
  have HC := Lib.hid (fun W (hB : Below w.heap.size w W) => (h.on hB).cells.2.2.2.2)
  have HR := Lib.hid (fun W (hB : Below w.heap.size w W) => h.on hB)
  have hrm : r ≤ s.length := by omega
  have hsub : IntKind.i64.wrap ((s.length : Int) - (r : Int)) = (m : Int) := by
    rw [IntWalk.i64_in _ (by omega)]; omega
  have HM := Lib.hid hm
  have HH := Lib.hid hr
  have hml : m ≤ s.length := by omega
  clear hm hr hv hlen
  go_enter Tryd.func36, Tryd.ntmps36
  go_wp2_with fail
  go_region_held3 (fun W => W.cell? ⟨b, 3, none⟩ = some (.slice A s.length c) ∧ W.frozen? ⟨b, 4, none⟩ = false) (first | exact HK.out _ HBR.out | exact HK.out _ HBD.out | exact HK.out _ (Hid.out (by assumption)) | exact HKS.out _ _ (Hid.out (by assumption))) ((first
    | (go_at_call 52; (with_reducible refine (HT.out _ (by first | exact HBD.out | exact HBR.out)).mono ?_); rintro e' Wi ⟨rfl, hBi⟩; have q4 := HC.out _ hBi; have HBI := Lib.hid hBi; clear hBi)))
  have hW : Rd (Wi.setCell ⟨b, 4, none⟩ (.int .i64 m)) b A c s k a t m := (HR.out _ HBI.out).setP hml
  have hG := grew_set (grew_of HBI.out (some b)) 4 (.int .i64 m)
  have HW := Lib.hid hW
  have HG := Lib.hid hG
  clear hW hG
  generalize Wi.setCell ⟨b, 4, none⟩ (.int .i64 m) = W2 at *
  have hpm : p ≤ m := by rw [HM.out]; omega
  obtain ⟨d0, d1, d2, d3, d4⟩ := HW.out.cells
  have hrange := run_range A s.length c p m hpm hml h.le
  have hcv := fun n => run_piece (HW.out.drewN n).bytes hpm hml h.le
  have hcv0 := run_piece HW.out.bytes hpm hml h.le
  have hcv1 := run_piece HW.out.drew.bytes hpm hml h.le
  have hst : (s.drop p).take (m - p) = runL s cs p := by
    rw [HM.out, Nat.add_sub_cancel_left, runL_take]
  rw [hst] at hcv0 hcv1
  simp only [hst] at hcv
  clear hst c0 c1 c2 c3 c4 f0 f1 f2 f3 f4 hsub q4
  go_wp2_with fail
  go_quiet (fail)
  go_wp2_with fail
  go_ret
  refine ⟨rfl, ?_, ?_⟩
  · rw [← HM.out]
    first | exact HW.out | exact HW.out.drew | exact HW.out.drewN _
  · first | exact HG.out | exact grew_drew HG.out | exact grew_drewN HG.out _
end Go.Proofs.YtmjooghfghmngaaDoor
