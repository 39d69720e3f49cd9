/- Layer sector, the law's own: bytes of one kind; a program that answers. -/
import Derived.Test.YtngfffbnofejmaaSCpy
import Derived.Test.YtngfffbnofejmaaSRf4
namespace Go.Proofs.Ytngfffbnofejmaa
open Go.RowKit Go.Lib Go.ChangeMaps Go.MapKept

/-- Bytes of one kind, a sector's or not as many. -/
def dataN (c : UInt8) (odd : Bool) : Nat := if odd = true then 511 + c.toNat % 3 * 2 else 512
def dataL (c : UInt8) (odd : Bool) : List UInt8 := List.replicate (dataN c odd) c
theorem dataL_len (c : UInt8) (odd : Bool) : (dataL c odd).length = dataN c odd := List.length_replicate
theorem dataN_le (c : UInt8) (odd : Bool) : dataN c odd ≤ 515 := by unfold dataN; split <;> omega
theorem fill_step (c : UInt8) (n k : Nat) (h : k < n) : (List.replicate k c ++ List.replicate (n - k) 0).set k c = List.replicate (k + 1) c ++ List.replicate (n - (k + 1)) 0 := by
  rw [show n - k = (n - (k + 1)) + 1 by omega, List.replicate_succ, List.set_append_right _ _ (by rw [List.length_replicate]; exact Nat.le_refl _), List.length_replicate, Nat.sub_self, List.set_cons_zero,
    List.replicate_succ', List.append_assoc]
  rfl
/-- The zeroes of a row overwritten. -/
theorem brow_own {w0 W : World} {v : Value} {l : List UInt8} (h : BRow w0 v l W) (hl : 0 < l.length) : ∃ g c, v = .slice (some ⟨g, 0, none⟩) l.length c ∧ w0.heap.size ≤ g ∧ ∃ cur, W.heap[g]? = some (.cells cur 5 (0, 0)) ∧ l.length ≤ cur.size := by
  rcases h.2.2 with ⟨rfl, h0⟩ | ⟨g, cap, cur, rfl, hg0, hg, hn, hm, hs, ht⟩
  · omega
  · exact ⟨g, cap, rfl, hg0, cur, hg, by omega⟩
set_option maxHeartbeats 1000000 in
theorem data_any (W : World) (c : UInt8) (odd : Bool) :
    Calls Try.prog 21 #[.int .u8 (c.toNat : Nat), .bool odd] W fun e w' => ∃ v, e = .returned v ∧ BRow W v (dataL c odd) w' := by
  have hc := c.toNat_lt
  obtain ⟨n, hn⟩ : ∃ n, dataN c odd = n := ⟨_, rfl⟩
  have hle : n ≤ 515 := by rw [← hn]; exact dataN_le _ _
  obtain ⟨hmk, hrow⟩ := made_bytes W n (by omega)
  have HN := Lib.hid hn
  have HR0 := Lib.hid hrow
  have e1 : ((c.toNat : Nat) : Int).tmod 3 = ((c.toNat % 3 : Nat) : Int) := by rw [Int.tmod_eq_emod_of_nonneg (by omega)]; omega
  have e2 : IntKind.u8.wrap ((c.toNat % 3 : Nat) : Int) = ((c.toNat % 3 : Nat) : Int) := by rw [IntKind.wrap_u8]; omega
  have e3 : IntKind.i64.wrap ((c.toNat % 3 : Nat) : Int) = ((c.toNat % 3 : Nat) : Int) := wrap_in (by omega) (by omega)
  have e4 : IntKind.i64.wrap (((c.toNat % 3 : Nat) : Int) * 2) = ((c.toNat % 3 : Nat) : Int) * 2 := wrap_in (by omega) (by omega)
  have e5 : IntKind.i64.wrap (511 + ((c.toNat % 3 : Nat) : Int) * 2) = 511 + ((c.toNat % 3 : Nat) : Int) * 2 := wrap_in (by omega) (by omega)
  clear hrow
  cases odd
  · have hn5 : (512 : Int) = (n : Int) := by rw [← hn]; rfl
    clear hn e1 e2 e3 e4 e5
    go_enter Try.func21, Try.ntmps21
    go_upto_region 4 with (fail)
    try rw [hn5]
    clear hn5
    go_upto_region 5 with (fail)
    obtain ⟨w1, E1⟩ : ∃ u, W.alloc (.cells (madeCells #[.int .u8 0] n) 5) = u := ⟨_, rfl⟩
    rw [E1] at HR0
    try rw [E1]
    obtain ⟨gb, hgb⟩ : ∃ gb, W.heap.size = gb := ⟨_, rfl⟩
    rw [hgb] at HR0
    try rw [hgb]
    have HG := Lib.hid (show W.heap.size ≤ gb by omega)
    clear hmk E1 hgb
    go_wp2_with fail
    go_loopg [7] n (fun m i wr => ∃ k : Nat, i = .int .i64 k ∧ k ≤ n ∧ m = n - k ∧ Hid (BRow W (.slice (some ⟨gb, 0, none⟩) n n) (List.replicate k c ++ List.replicate (n - k) 0) wr))
    case atStart => exact ⟨0, rfl, Nat.zero_le _, rfl, HR0⟩
    case round =>
      obtain ⟨k, rfl, hk, rfl, HR⟩ := hrel
      have hlen : (List.replicate k c ++ List.replicate (n - k) (0 : UInt8)).length = n := by rw [List.length_append, List.length_replicate, List.length_replicate]; omega
      by_cases hlt : k < n
      · have hl1 : (k : Int) < (n : Int) := by omega
        have hl0 : (0 : Int) ≤ (k : Int) := by omega
        have HKK := Lib.hid hk
        have HS := HR.out
        rw [show (Value.slice (some ⟨gb, 0, none⟩) n n) = .slice (some ⟨gb, 0, none⟩) (List.replicate k c ++ List.replicate (n - k) (0 : UInt8)).length n by rw [hlen]] at HS
        obtain ⟨g', c', ev, hg', cur, hcur, hsz⟩ := brow_own HS (by rw [hlen]; omega)
        have e1' : gb = g' := by have h1 := (Value.slice.inj ev).1; cases h1; rfl
        clear ev
        subst e1'
        have kc : ∃ x, wr.cell? ⟨gb, k, none⟩ = some x := by
          rw [blk_cell hcur k]
          exact ⟨_, Array.getElem?_eq_getElem (by rw [hlen] at hsz; omega)⟩
        obtain ⟨x0, kc⟩ := kc
        have kf := blk_frozen hcur k
        have h2 := HS.setd k c
        rw [fill_step c n k hlt] at h2
        have hlen2 : (List.replicate k c ++ List.replicate (n - k) (0 : UInt8)).length = n := hlen
        rw [hlen] at h2
        have HS2 := Lib.hid h2
        clear HS h2 hlen hlen2 hcur hsz
        go_wp2_with fail
        go_roundg (n - (k + 1))
        case measure => have := HKK.out; omega
        case rel => exact ⟨k + 1, by go_num, by omega, rfl, HS2⟩
      · obtain rfl : k = n := by omega
        have HRR := Lib.hid HR.out
        have hl1 : ¬ (k : Int) < (k : Int) := by omega
        clear HR
        go_wp2_with fail
        go_ret
        refine ⟨_, rfl, ?_⟩
        have h3 := HRR.out
        rw [Nat.sub_self, List.replicate_zero, List.append_nil] at h3
        unfold dataL
        rw [HN.out]
        exact h3
  · have hn5 : 511 + (c.toNat : Int) % 3 * 2 = (n : Int) := by rw [← hn]; unfold dataN; rw [if_pos rfl]; omega
    clear hn
    go_enter Try.func21, Try.ntmps21
    go_upto_region 4 with (fail)
    try rw [hn5]
    clear hn5 e1 e2 e3 e4 e5
    go_upto_region 5 with (fail)
    obtain ⟨w1, E1⟩ : ∃ u, W.alloc (.cells (madeCells #[.int .u8 0] n) 5) = u := ⟨_, rfl⟩
    rw [E1] at HR0
    try rw [E1]
    obtain ⟨gb, hgb⟩ : ∃ gb, W.heap.size = gb := ⟨_, rfl⟩
    rw [hgb] at HR0
    try rw [hgb]
    have HG := Lib.hid (show W.heap.size ≤ gb by omega)
    clear hmk E1 hgb
    go_wp2_with fail
    go_loopg [7] n (fun m i wr => ∃ k : Nat, i = .int .i64 k ∧ k ≤ n ∧ m = n - k ∧ Hid (BRow W (.slice (some ⟨gb, 0, none⟩) n n) (List.replicate k c ++ List.replicate (n - k) 0) wr))
    case atStart => exact ⟨0, rfl, Nat.zero_le _, rfl, HR0⟩
    case round =>
      obtain ⟨k, rfl, hk, rfl, HR⟩ := hrel
      have hlen : (List.replicate k c ++ List.replicate (n - k) (0 : UInt8)).length = n := by rw [List.length_append, List.length_replicate, List.length_replicate]; omega
      by_cases hlt : k < n
      · have hl1 : (k : Int) < (n : Int) := by omega
        have hl0 : (0 : Int) ≤ (k : Int) := by omega
        have HKK := Lib.hid hk
        have HS := HR.out
        rw [show (Value.slice (some ⟨gb, 0, none⟩) n n) = .slice (some ⟨gb, 0, none⟩) (List.replicate k c ++ List.replicate (n - k) (0 : UInt8)).length n by rw [hlen]] at HS
        obtain ⟨g', c', ev, hg', cur, hcur, hsz⟩ := brow_own HS (by rw [hlen]; omega)
        have e1' : gb = g' := by have h1 := (Value.slice.inj ev).1; cases h1; rfl
        clear ev
        subst e1'
        have kc : ∃ x, wr.cell? ⟨gb, k, none⟩ = some x := by
          rw [blk_cell hcur k]
          exact ⟨_, Array.getElem?_eq_getElem (by rw [hlen] at hsz; omega)⟩
        obtain ⟨x0, kc⟩ := kc
        have kf := blk_frozen hcur k
        have h2 := HS.setd k c
        rw [fill_step c n k hlt] at h2
        have hlen2 : (List.replicate k c ++ List.replicate (n - k) (0 : UInt8)).length = n := hlen
        rw [hlen] at h2
        have HS2 := Lib.hid h2
        clear HS h2 hlen hlen2 hcur hsz
        go_wp2_with fail
        go_roundg (n - (k + 1))
        case measure => have := HKK.out; omega
        case rel => exact ⟨k + 1, by go_num, by omega, rfl, HS2⟩
      · obtain rfl : k = n := by omega
        have HRR := Lib.hid HR.out
        have hl1 : ¬ (k : Int) < (k : Int) := by omega
        clear HR
        go_wp2_with fail
        go_ret
        refine ⟨_, rfl, ?_⟩
        have h3 := HRR.out
        rw [Nat.sub_self, List.replicate_zero, List.append_nil] at h3
        unfold dataL
        rw [HN.out]
        exact h3
end Go.Proofs.Ytngfffbnofejmaa
