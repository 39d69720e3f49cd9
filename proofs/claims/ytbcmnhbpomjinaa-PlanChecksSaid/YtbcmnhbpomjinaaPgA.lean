/- The program's small calls on plans: isID, isOwner, turned, edgesOf. -/
import Derived.Test.YtbcmnhbpomjinaaRefPar
import Derived.Test.YtbcmnhbpomjinaaMaps
import Derived.Laws.IdiomStrings
namespace Go.Proofs.Ytbcmnhbpomjinaa
open Go.RowKit

set_option maxHeartbeats 400000 in
theorem id_any (n : Int) (w : World) : Calls Try.prog 30 #[.int .i64 n] w fun e w' => e = .returned (.bool (idB n)) ∧ w' = w := by
  by_cases h1 : 1 ≤ n
  · by_cases h2 : n ≤ 1073741824
    · have HG : Hid (idB n = true) := by unfold Hid idB; simp [h1, h2]
      go_enter Try.func30, Try.ntmps30
      go_wp2
      go_ret
      rw [HG.out]
      exact ⟨rfl, rfl⟩
    · have HG : Hid (idB n = false) := by unfold Hid idB; simp [h2]
      go_enter Try.func30, Try.ntmps30
      go_wp2
      go_ret
      rw [HG.out]
      exact ⟨rfl, rfl⟩
  · have HG : Hid (idB n = false) := by unfold Hid idB; simp [h1]
    go_enter Try.func30, Try.ntmps30
    go_wp2
    go_ret
    rw [HG.out]
    exact ⟨rfl, rfl⟩

set_option maxRecDepth 100000 in
set_option maxHeartbeats 1000000 in
theorem turned_any (e : (Int × Int) × (Int × Int)) (w : World) : Calls Try.prog 73 #[.agg #[.int .i64 e.1.1, .int .i64 e.1.2, .int .i64 e.2.1, .int .i64 e.2.2]] w fun e' w' => e' = .returned (.agg #[.int .i64 (bk e).1.1, .int .i64 (bk e).1.2, .int .i64 (bk e).2.1, .int .i64 (bk e).2.2]) ∧ Below w.heap.size w w' := by
  have HQ := ((Hold.refl w).new #[.int .i64 e.1.1, .int .i64 e.1.2, .int .i64 e.2.1, .int .i64 e.2.2] 60).new' #[.int .i64 0, .int .i64 0, .int .i64 0, .int .i64 0] 60 (n := w.heap.size + 1) (by simp)
  go_enter Try.func73, Try.ntmps73
  go_upto_region 1 with (fail)
  generalize (World.alloc _ _) = W1 at HQ ⊢
  generalize w.heap.size + 1 = g1 at HQ ⊢
  obtain ⟨g0, hg0⟩ : ∃ g, w.heap.size = g := ⟨_, rfl⟩
  rw [hg0] at HQ ⊢
  have HG0 := Lib.hid hg0
  clear hg0
  obtain ⟨c0, c1, c2, c3⟩ := HQ.q4 (List.mem_cons_of_mem _ List.mem_cons_self)
  obtain ⟨k0, k1, k2, k3⟩ := HQ.q4 List.mem_cons_self
  obtain ⟨z0, z1, z2, z3⟩ := HQ.z4 List.mem_cons_self
  go_wp2
  have HE := Hold.set4 (L1 := []) HQ (.int .i64 e.2.1) (.int .i64 e.2.2) (.int .i64 e.1.1) (.int .i64 e.1.2)
  obtain ⟨n0, n1, n2, n3⟩ := HE.q4 List.mem_cons_self
  refine bodyPost_ret (v := .agg #[.int .i64 (bk e).1.1, .int .i64 (bk e).1.2, .int .i64 (bk e).2.1, .int .i64 (bk e).2.2]) ?_ rfl ⟨rfl, HE.1⟩
  simp [results, Try.results73, go_sem, n0, n1, n2, n3, bk]

/-! An owner. -/
def badB (b : Int) : Bool := decide (b < 32) || decide (126 < b)
theorem bad_any (b : Int) (w : World) : Calls Try.prog 56 #[.int .u8 b] w fun e w' => e = .returned (.bool (badB b)) ∧ w' = w := by
  by_cases h1 : b < 32
  · have HG : Hid (badB b = true) := by unfold Hid badB; simp [h1]
    go_enter Try.func56, Try.ntmps56
    go_wp2
    go_ret
    rw [HG.out]
    exact ⟨rfl, rfl⟩
  · by_cases h2 : 126 < b
    · have HG : Hid (badB b = true) := by unfold Hid badB; simp [h2]
      go_enter Try.func56, Try.ntmps56
      go_wp2
      go_ret
      rw [HG.out]
      exact ⟨rfl, rfl⟩
    · have HG : Hid (badB b = false) := by unfold Hid badB; simp [h1, h2]
      go_enter Try.func56, Try.ntmps56
      go_wp2
      go_ret
      rw [HG.out]
      exact ⟨rfl, rfl⟩
theorem badB_not {b : Int} (h : badB b = false) : 32 ≤ b ∧ b ≤ 126 := by
  unfold badB at h
  simp at h
  omega
theorem badB_yes {b : Int} (h : badB b = true) : b < 32 ∨ 126 < b := by
  unfold badB at h
  simpa using h
def Fair (s : ByteArray) : Prop := ∀ j (hj : j < s.size), 32 ≤ s[j].toNat ∧ s[j].toNat ≤ 126
set_option maxRecDepth 100000 in
set_option maxHeartbeats 2000000 in
theorem indexf_any (s : ByteArray) (ad : Addr) (cap : Nat) (hs : s.size ≤ maxLen) (w : World) (hc : ∀ j (hj : j < s.size), w.cell? (ad.add j) = some (.int .u8 s[j].toNat)) :
    Calls Try.prog 72 #[.slice (some ad) s.size cap, .func (.func 56) #[] #[]] w fun e w' => ∃ n : Int, e = .returned (.int .i64 n) ∧ (0 ≤ n ↔ ¬ Fair s) ∧ w' = w := by
  have HS : Hid (s.size ≤ 9223372036854775807) := by unfold Hid; unfold maxLen at hs; omega
  have HC := Lib.hid hc
  clear hs hc
  go_enter Try.func72, Try.ntmps72
  go_wp2_with fail
  go_loopg [8] s.size (fun g i wr => ∃ k : Nat, k ≤ s.size ∧ g = s.size - k ∧ i = .int .i64 k ∧ (∀ j (hj : j < s.size), j < k → 32 ≤ s[j].toNat ∧ s[j].toNat ≤ 126) ∧ wr = w)
  case atStart => exact ⟨0, Nat.zero_le _, rfl, rfl, fun j _ hj => absurd hj (by omega), rfl⟩
  case round =>
    obtain ⟨k, hk, hgk, rfl, hno, rfl⟩ := hrel
    have HGK := Lib.hid hgk
    have HNO := Lib.hid hno
    clear hgk hno
    by_cases hlt : k < s.size
    · have b0 : (0 : Int) ≤ (k : Int) := by omega
      have b1 : (k : Int) < (s.size : Int) := by omega
      have hws : IntKind.i64.wrap ((k : Int) + 1) = (k : Int) + 1 := by have := HS.out; rw [IntKind.wrap_i64]; omega
      have d0 := HC.out k hlt
      have HB := Lib.hid (fun W => bad_any (s[k].toNat : Int) W)
      cases hb : badB (s[k].toNat : Int)
      · have HN : Hid (∀ j (hj : j < s.size), j < k + 1 → 32 ≤ s[j].toNat ∧ s[j].toNat ≤ 126) := fun j hj hjk => by
          by_cases e : j = k
          · subst e; have := badB_not hb; omega
          · exact HNO.out j hj (by omega)
        clear HNO
        go_wp2_with (go_at_call 56; go_must (refine (HB.out _).mono ?_; rintro e w' ⟨rfl, rfl⟩))
        go_roundg (s.size - (k + 1))
        case measure => have := HGK.out; omega
        case rel => exact ⟨k + 1, by omega, rfl, by go_num, HN.out, rfl⟩
      · have HE : Hid ((0 : Int) ≤ (k : Int) ↔ ¬ Fair s) := ⟨fun _ h => by have := badB_yes hb; have := h k hlt; omega, fun _ => by omega⟩
        clear HNO
        go_wp2_with (go_at_call 56; go_must (refine (HB.out _).mono ?_; rintro e w' ⟨rfl, rfl⟩))
        go_ret
        exact ⟨_, rfl, HE.out, rfl⟩
    · obtain rfl : k = s.size := by omega
      have HE : Hid ((0 : Int) ≤ -1 ↔ ¬ Fair s) := ⟨fun h => by omega, fun h => absurd (fun j hj => HNO.out j hj hj) h⟩
      clear HNO
      go_wp2
      go_ret
      exact ⟨_, rfl, HE.out, rfl⟩
set_option maxHeartbeats 1000000 in
theorem containsf_any (s : ByteArray) (ad : Addr) (cap : Nat) (hs : s.size ≤ maxLen) (w : World) (hc : ∀ j (hj : j < s.size), w.cell? (ad.add j) = some (.int .u8 s[j].toNat)) :
    Calls Try.prog 55 #[.slice (some ad) s.size cap, .func (.func 56) #[] #[]] w fun e w' => ∃ b : Bool, e = .returned (.bool b) ∧ (b = true ↔ ¬ Fair s) ∧ w' = w := by
  have HI := Lib.hid (indexf_any s ad cap hs w hc)
  clear hs hc
  go_enter Try.func55, Try.ntmps55
  go_wp2_with (go_at_call 72; go_must (refine HI.out.mono ?_; rintro e w' ⟨n, rfl, hn, rfl⟩; have HN := Lib.hid hn; clear hn))
  go_ret
  exact ⟨_, rfl, by rw [decide_eq_true_iff]; exact HN.out, rfl⟩
theorem bytes_cell (w : World) (s : ByteArray) (cap : Nat) (t : TypeId) (m : Nat × Nat) (j : Nat) (hj : j < s.size) : (w.alloc (.cells (bytesRow s cap) t m)).cell? ((⟨w.heap.size, 0, none⟩ : Addr).add j) = some (.int .u8 s[j].toNat) := by
  have h := heap_alloc_new w (.cells (bytesRow s cap) t m)
  rw [add_off]
  simp only [World.cell?, h]
  unfold bytesRow
  have hj' : j < s.data.size := hj
  simp only [Option.isSome_none, Bool.false_eq_true, if_false]
  rw [Array.getElem?_append_left (by rw [Array.size_map]; exact hj'), Array.getElem?_map, Array.getElem?_eq_getElem hj']
  rfl
set_option maxRecDepth 100000 in
set_option maxHeartbeats 2000000 in
theorem owner_any (s : ByteArray) (hs : s.size ≤ maxLen) (w : World) : Calls Try.prog 31 #[.string s] w fun e w' => e = .returned (.bool (owB s)) ∧ Below w.heap.size w w' := by
  by_cases h : s.size ≤ 32
  · have h' : (s.size : Int) ≤ 32 := by omega
    have hconv := fun W => run_bytes_of_string (P := Try.prog) W 9 89 5 s (by kernel_rfl) (by kernel_rfl) (by kernel_rfl)
    have HCF := Lib.hid (fun ad cap W hc => containsf_any s ad cap hs W hc)
    have HE : Hid (∀ b : Bool, (b = true ↔ ¬ Fair s) → (!b) = owB s) := fun b hb => by
      cases b
      · exact (owB_iff.2 ⟨(Classical.byContradiction fun hn => (by have h3 := hb.2 hn; cases h3)), h⟩).symm
      · exact (owB_not.2 fun hh => hb.1 rfl hh.1).symm
    clear h
    go_enter Try.func31, Try.ntmps31
    go_wp2_with (go_at_call 55; go_must (refine (HCF.out ⟨w.heap.size, 0, none⟩ _ _ (fun j hj => (show ((w.alloc (.cells (bytesRow s (grownCap w s.size 0 5)) 5 ((bytesRow s (grownCap w s.size 0 5)).size, (bytesRow s (grownCap w s.size 0 5)).size + 1))).drew).cell? _ = _ from bytes_cell w s _ _ _ j hj))).mono ?_; rintro e w' ⟨b, rfl, hb, rfl⟩; have HB := Lib.hid hb; clear hb))
    go_ret
    exact ⟨by rw [HE.out b HB.out]; rfl, by go_grown⟩
  · have h' : ¬ (s.size : Int) ≤ 32 := by omega
    have HE : Hid (owB s = false) := owB_not.2 fun hh => h hh.2
    clear h
    go_enter Try.func31, Try.ntmps31
    go_wp2
    go_ret
    rw [HE.out]
    exact ⟨rfl, Below.refl _ _⟩
end Go.Proofs.Ytbcmnhbpomjinaa
