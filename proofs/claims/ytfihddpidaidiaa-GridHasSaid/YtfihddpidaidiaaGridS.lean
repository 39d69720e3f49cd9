/- The given law package's comparison of two lists of cells, where they are the same. -/
import Derived.Test.YtfihddpidaidiaaGridB
namespace Go.Proofs.Ytfihddpidaidiaa
open Go.RowKit
theorem bel_drewN {w W : World} {n : Nat} (h : Below n w W) (q : Nat) : Below n w (W.drewN q) := ⟨h.os, h.tape, h.output, h.size, h.block⟩
theorem cells_at {w : World} {B : Nat} {A : Option Addr} {l : List (Int × Int)} (h : Items w B A encP l) {k : Nat} (hk : k < l.length) : ∃ ad, A = some ad ∧ ad.block < B ∧ w.cell? (ad.add (k * 2)) = some (.int .i64 l[k].1) ∧ w.cell? ⟨(ad.add (k * 2)).block, (ad.add (k * 2)).off + 1, none⟩ = some (.int .i64 l[k].2) := by
  obtain ⟨ad, e, hb, h0, hc⟩ := h.at kindC.len hk
  exact ⟨ad, e, hb, h0 _ (by decide) rfl, hc 1 _ (by decide) (by decide) rfl⟩
set_option maxRecDepth 100000 in
set_option maxHeartbeats 4000000 in
theorem same_any (l : List (Int × Int)) (A B : Option Addr) (ca cb : Nat) (hl : l.length ≤ 1000) (w : World) (ha : Items w w.heap.size A encP l) (hb : Items w w.heap.size B encP l) :
    Calls Try.prog 15 #[.slice A l.length ca, .slice B l.length cb] w fun e w' => e = .returned (.bool true) ∧ Below w.heap.size w w' := by
  have HA := Lib.hid ha
  have HC := Lib.hid hb
  clear ha hb
  go_enter Try.func15, Try.ntmps15
  go_wp2_with fail
  go_loopg [5] l.length (fun gg s5 wr => ∃ k : Nat, k ≤ l.length ∧ gg = l.length - k ∧ s5 = .int .i64 k ∧ Below w.heap.size w wr)
  case atStart => exact ⟨0, Nat.zero_le _, rfl, rfl, Below.refl _ _⟩
  case round =>
    obtain ⟨k, hk, hgk, rfl, HB⟩ := hrel
    have HGK := Lib.hid hgk
    clear hgk
    by_cases hlt : k < l.length
    · obtain ⟨ad, eA, -, d0, d1⟩ := cells_at (HA.out.on HB) hlt
      obtain ⟨bd, eB, -, d2, d3⟩ := cells_at (HC.out.on HB) hlt
      subst eA eB
      have b0 : (0 : Int) ≤ (k : Int) := by omega
      have b1 : (k : Int) < (l.length : Int) := by omega
      have b2 : (l.length : Int) ≤ 1000 := by omega
      have HBX := Lib.hid HB
      clear HB
      generalize l[k].1 = x at *
      generalize l[k].2 = y at *
      go_upto_region 4 with (fail)
      go_quiet (fail)
      go_wp2_with fail
      go_roundg (l.length - (k + 1))
      case measure => have := HGK.out; omega
      case rel => exact ⟨k + 1, by omega, rfl, by go_num, bel_drewN HBX.out _⟩
    · obtain rfl : k = l.length := by omega
      have a3 : ¬ ((l.length : Int) < (l.length : Int)) := by omega
      have HBX := Lib.hid HB
      clear HB
      go_wp2
      go_ret
      exact ⟨rfl, HBX.out⟩
end Go.Proofs.Ytfihddpidaidiaa
