/- The law package's search for a cell in a list of cells. -/
import Derived.Test.YtfihddpidaidiaaGridS
namespace Go.Proofs.Ytfihddpidaidiaa
open Go.RowKit
theorem ne_cell {a b : Int × Int} (h : ¬ a = b) : ¬ a.1 = b.1 ∨ (a.1 = b.1 ∧ ¬ a.2 = b.2) := by
  by_cases h1 : a.1 = b.1
  · exact .inr ⟨h1, fun h2 => h (Prod.ext h1 h2)⟩
  · exact .inl h1
theorem mem_take_succ {l : List (Int × Int)} {k : Nat} (hk : k < l.length) {c : Int × Int} (h1 : c ∉ l.take k) (h2 : ¬ l[k] = c) : c ∉ l.take (k + 1) := by
  rw [List.take_succ_eq_append_getElem hk, List.mem_append, List.mem_singleton]
  rintro (h | h)
  · exact h1 h
  · exact h2 h.symm
set_option maxRecDepth 100000 in
set_option maxHeartbeats 4000000 in
theorem has_any (l : List (Int × Int)) (A : Option Addr) (ca : Nat) (c : Int × Int) (g : Nat) (hl : l.length ≤ 1000) (w : World) (hi : Items w w.heap.size A encP l) (hg : w.heap[g]? = some (.cells #[.int .i64 c.1, .int .i64 c.2] 24 (0, 0))) :
    Calls Try.prog 20 #[.slice A l.length ca, .pointer (some ⟨g, 0, none⟩)] w fun e w' => e = .returned (.bool (decide (c ∈ l))) ∧ Below w.heap.size w w' := by
  have HI := Lib.hid hi
  have HC := Lib.hid (fun W (h : Below w.heap.size w W) => box_at hg h)
  clear hi hg
  go_enter Try.func20, Try.ntmps20
  go_wp2_with fail
  go_loopg [4] l.length (fun gg s4 wr => ∃ k : Nat, k ≤ l.length ∧ gg = l.length - k ∧ s4 = .int .i64 k ∧ Hid (c ∉ l.take k) ∧ Below w.heap.size w wr)
  case atStart => exact ⟨0, Nat.zero_le _, rfl, rfl, Lib.hid (by simp), Below.refl _ _⟩
  case round =>
    obtain ⟨k, hk, hgk, rfl, HT, HB⟩ := hrel
    have HGK := Lib.hid hgk
    clear hgk
    by_cases hlt : k < l.length
    · obtain ⟨ad, eA, -, d0, d1⟩ := cells_at (HI.out.on HB) hlt
      obtain ⟨c0, c1⟩ := HC.out _ HB
      subst eA
      have b0 : (0 : Int) ≤ (k : Int) := by omega
      have b1 : (k : Int) < (l.length : Int) := by omega
      have b2 : (l.length : Int) ≤ 1000 := by omega
      have HBX := Lib.hid HB
      have HM := Lib.hid (List.getElem_mem hlt)
      have HTK : Hid (¬ l[k] = c → c ∉ l.take (k + 1)) := mem_take_succ hlt HT.out
      clear HB HT
      generalize l[k] = x at *
      by_cases hx : x = c
      · subst hx
        have HD := Lib.hid (decide_eq_true HM.out)
        clear HM HTK
        go_upto_region 4 with (fail)
        go_quiet (fail)
        go_wp2
        go_ret
        rw [HD.out]
        exact ⟨rfl, bel_drewN HBX.out _⟩
      · have HN := Lib.hid (HTK.out hx)
        have hne := ne_cell hx
        clear hx HTK HM
        rcases hne with h | ⟨h, h'⟩
        · go_upto_region 4 with (fail)
          go_quiet (fail)
          go_wp2_with fail
          go_roundg (l.length - (k + 1))
          case measure => have := HGK.out; omega
          case rel => exact ⟨k + 1, by omega, rfl, by go_num, HN, bel_drewN HBX.out _⟩
        · go_upto_region 4 with (fail)
          go_quiet (fail)
          go_wp2_with fail
          go_roundg (l.length - (k + 1))
          case measure => have := HGK.out; omega
          case rel => exact ⟨k + 1, by omega, rfl, by go_num, HN, bel_drewN HBX.out _⟩
    · obtain rfl : k = l.length := by omega
      have a3 : ¬ ((l.length : Int) < (l.length : Int)) := by omega
      have HD : Hid (decide (c ∈ l) = false) := by
        have := HT.out
        rw [List.take_length] at this
        exact decide_eq_false this
      have HBX := Lib.hid HB
      clear HB HT
      go_wp2
      go_ret
      rw [HD.out]
      exact ⟨rfl, HBX.out⟩
end Go.Proofs.Ytfihddpidaidiaa
