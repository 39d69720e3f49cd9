/- The law JsonNumbers: its walk. -/
import Derived.Test.YtmjooghfghmngaaDoorJAns
import Derived.Test.YtmjooghfghmngaaDoorJNumP
import Derived.Lib.ConvBytes
namespace Go.Proofs.YtmjooghfghmngaaDoor
open Go.RowKit Go.Shelf Go.Lib

/-- A string's bytes in a block of the call's own. -/
theorem conv_bytes (W : World) (s : ByteArray) (hs : s.size ≤ 2097152) : ∃ W1 cap, (convert 9 26 (.string s)).run Tryd.prog W = .ok (.slice (some ⟨W.heap.size, 0, none⟩) s.size cap) W1 ∧ Below W.heap.size W W1 ∧ W1.heap.size = W.heap.size + 1 ∧
    Lib.BytesAt W1 (some ⟨W.heap.size, 0, none⟩) s.data.toList.length s.data.toList ∧ s.size ≤ cap ∧ cap ≤ 9223372036854775807 := by
  refine ⟨_, _, Lib.run_convert_string_bytes (P := Tryd.prog) W 9 26 5 s Tryd.underlying9 Tryd.underlying26 Tryd.underlying5, ⟨?_, ?_, ?_, ?_, ?_⟩, Lib.bytesWorld_size _ _ _, fun h0 => ?_, Go.grownCap_ge _ _ _ _, ?_⟩
  · rfl
  · rfl
  · rfl
  · rw [Lib.bytesWorld_size]; omega
  · intro k hk; exact Lib.bytesWorld_at_old W _ s k hk
  · refine ⟨W.heap.size, 0, rfl, fun i hi => ?_⟩
    rw [Nat.zero_add]
    exact Lib.bytesWorld_cell W _ s i (by rw [Lib.size_eq]; exact hi)
  · have := Go.grownCap_le_maxLen W s.size 0 5 (by unfold maxLen; omega)
    unfold maxLen at this
    omega
theorem nums_iff (x : UInt8) : numsB.contains x = ((decide (48 ≤ x.toNat) && decide (x.toNat ≤ 57)) || decide (x.toNat = 43) || decide (x.toNat = 45) || decide (x.toNat = 46) || decide (x.toNat = 101) || decide (x.toNat = 69)) := by
  have h : ∀ n : Nat, n < 256 → numsB.contains (UInt8.ofNat n) = ((decide (48 ≤ n) && decide (n ≤ 57)) || decide (n = 43) || decide (n = 45) || decide (n = 46) || decide (n = 101) || decide (n = 69)) := by decide +kernel
  have := h x.toNat x.toNat_lt
  rwa [UInt8.ofNat_toNat] at this

/-- Where the bytes are a value with no others in it. -/
theorem parse_str {w : World} {A : Option Addr} {c : Nat} {s : List UInt8} {k : Int} {t : ByteArray} (hx : parseN s = .ok (.mk k t [] [])) (hE : Env w) (hB : Lib.BytesAt w A s.length s) (hA : ∀ ad, A = some ad → ad.block < w.heap.size) (hle : s.length ≤ c) (hcap : c ≤ 9223372036854775807) :
    Calls Tryd.prog 13 #[.slice A s.length c] w fun e w' => ∃ A1 c1 A2 c2, e = .returned (.tuple #[.agg #[.int .i64 k, .string t, .slice A1 0 c1, .slice A2 0 c2], .int .i64 0, .int .i64 0]) ∧ Below w.heap.size w w' :=
  (parse_ok hx hE hB hA hle hcap).mono fun e w' ⟨p, F, he, hb, hV, _⟩ => by
    obtain ⟨pk, pt, pkv, plv⟩ := p
    obtain ⟨hk, ht, ⟨A1, c1, hkv, -⟩, A2, c2, hl2, -⟩ := hV
    simp only at hk ht hkv hl2
    subst hk ht hkv hl2
    exact ⟨A1, c1, A2, c2, he, hb⟩

set_option maxHeartbeats 2000000 in
theorem numbers_walk (s : ByteArray) {W : World} (hE : Env W) : Calls Tryd.prog 8 #[.string s] W fun e w' => e = .returned (.bool true) ∧ Below W.heap.size W w' := by
  have HA := Lib.hid (fun W' (hb : Below W.heap.size W W') => answers_any (hE.on hb))
  have HE := Lib.hid hE
  have HB0 := Lib.hid (Below.refl W.heap.size W)
  clear hE
  by_cases hbig : (2000 : Int) < (s.size : Int)
  · go_enter Tryd.func8, Tryd.ntmps8
    go_wp2_with (first
      | (go_at_call 12; (with_reducible refine (HA.out _ HB0.out).mono ?_); rintro e' W1 ⟨rfl, hB1⟩; have HB1 := Lib.hid hB1; clear hB1)
      | (go_at_call 12; (with_reducible refine (HA.out _ HB1.out).mono ?_); rintro e' W2 ⟨rfl, hB2⟩; have HB2 := Lib.hid (HB1.out.trans (hB2.mono HB1.out.size)); clear hB2))
    go_ret
    exact ⟨rfl, HB2.out⟩
  · have hsz : s.size ≤ 2000 := by omega
    go_enter Tryd.func8, Tryd.ntmps8
    go_wp2_with (go_at_call 12; (with_reducible refine (HA.out _ HB0.out).mono ?_); rintro e' W1 ⟨rfl, hB1⟩; have HB1 := Lib.hid hB1; clear hB1)
    clear HA
    go_loopw [3] (fun i wr => ∃ j : Nat, i = .int .i64 j ∧ j ≤ s.size ∧ wr = W1 ∧ Hid (∀ c ∈ s.data.toList.take j, numsB.contains c = true)) (fun i _ => s.size - (RowKit.intOf i).toNat)
    case atStart => exact ⟨0, rfl, by omega, rfl, fun c hc => by simp at hc⟩
    case round =>
      obtain ⟨j, rfl, hj, hw, HJ⟩ := hrel
      have hw := hw.symm
      subst hw
      by_cases hlt : j < s.size
      · have hl : (j : Int) < (s.size : Int) := by omega
        have hx : s.data.toList.take (j + 1) = s.data.toList.take j ++ [s[j]] := by
          rw [List.take_add_one]
          have hj2 : j < s.data.toList.length := by rw [← Lib.size_eq]; exact hlt
          rw [List.getElem?_eq_getElem hj2]
          rfl
        have HX := Lib.hid hx
        clear hx
        go_wp2_with fail
        all_goals first
          | (go_ret; exact ⟨rfl, HB1.out⟩)
          | (try simp only [bne_eq_false_iff_eq] at *
             have hin : numsB.contains s[j] = true := by
               rw [nums_iff]
               simp only [Bool.or_eq_true, Bool.and_eq_true, decide_eq_true_eq]
               omega
             refine ⟨⟨j + 1, by go_num, by omega, by first | rfl | trivial, ?_⟩, by simp [RowKit.intOf]; omega⟩
             intro c hc
             rw [HX.out, List.mem_append] at hc
             rcases hc with hc | hc
             · exact HJ.out c hc
             · rw [List.mem_singleton] at hc; rw [hc]; exact hin)
      · have hl : ¬ (j : Int) < (s.size : Int) := by omega
        have hall : ∀ c ∈ s.data.toList, numsB.contains c = true := fun c hc => HJ.out c (by
          rw [List.take_of_length_le (by rw [← Lib.size_eq]; omega)]
          exact hc)
        have hlen : s.data.toList.length = s.size := (Lib.size_eq s).symm
        obtain ⟨Wa, ca, hca, hBa, hsa, hYa, hla, hma⟩ := conv_bytes W1 s (by omega)
        have hEa := HE.out.on (HB1.out.trans (hBa.mono HB1.out.size))
        have hpn := parse_nums s.data.toList (by omega) hall
        cases hnb : numB s.data.toList with
        | true =>
          rw [hnb, if_pos rfl] at hpn
          have hP := parse_str (c := ca) hpn hEa hYa (fun ad e => by cases e; show W1.heap.size < _; omega) (by omega) hma
          rw [hlen, show (⟨s.data.toList.toArray⟩ : ByteArray) = s from Lib.mk_data s] at hP
          have HP := Lib.hid hP
          have HBa := Lib.hid (HB1.out.trans (hBa.mono HB1.out.size))
          clear hP hpn hEa hBa
          go_wp2_with fail
          go_at_call 13
          refine HP.out.mono ?_
          rintro e' W2 ⟨A1, c1, A2, c2, rfl, hb2⟩
          have hB2 := HBa.out.trans (hb2.mono HBa.out.size)
          have hB3 := hB2.alloc hB2.size (Obj.cells #[.int .i64 4, .string s, .slice A1 0 c1, .slice A2 0 c2] 25)
          obtain ⟨Wb, cb, hcb, hBb, hsb, hYb, hlb, hmb⟩ := conv_bytes (W2.alloc (Obj.cells #[.int .i64 4, .string s, .slice A1 0 c1, .slice A2 0 c2] 25)) s (by omega)
          have hN := ref_Number (c := cb) hYb (by omega)
          rw [num_eq, hnb, hlen] at hN
          simp only [World.size_alloc] at hN hcb
          have hb3 := (hBb.block W2.heap.size (by rw [World.size_alloc]; omega)).trans (heap_alloc_new W2 _)
          have q0 : Wb.cell? ⟨W2.heap.size, 0, none⟩ = some (.int .i64 4) := blk_cell hb3 0
          have q1 : Wb.cell? ⟨W2.heap.size, 1, none⟩ = some (.string s) := blk_cell hb3 1
          have HN := Lib.hid hN
          have HB4 := Lib.hid (hB3.trans (hBb.mono hB3.size))
          clear hN hb2 hB2 hB3 hBb hb3 hYa hYb hlb hmb hla hma hca HP
          go_wp2_with (go_at_call 16; (with_reducible refine HN.out.mono ?_); rintro e' wz ⟨rfl, hwz⟩; have hwz := hwz.symm; subst hwz)
          go_ret
          exact ⟨rfl, HB4.out⟩
        | false =>
          rw [hnb] at hpn
          have hP := parse_no (c := ca) hpn hEa hYa (fun ad e => by cases e; show W1.heap.size < _; omega) (by omega) hma
          rw [hlen] at hP
          have HP := Lib.hid hP
          have HBa := Lib.hid (HB1.out.trans (hBa.mono HB1.out.size))
          clear hP hpn hEa hBa
          go_wp2_with fail
          go_at_call 13
          refine HP.out.mono ?_
          rintro e' W2 ⟨rfl, hb2⟩
          have hB2 := HBa.out.trans (hb2.mono HBa.out.size)
          have hB3 := hB2.alloc hB2.size (Obj.cells #[.int .i64 0, .string ⟨#[]⟩, .slice none 0 0, .slice none 0 0] 25)
          obtain ⟨Wb, cb, hcb, hBb, hsb, hYb, hlb, hmb⟩ := conv_bytes (W2.alloc (Obj.cells #[.int .i64 0, .string ⟨#[]⟩, .slice none 0 0, .slice none 0 0] 25)) s (by omega)
          have hN := ref_Number (c := cb) hYb (by omega)
          rw [num_eq, hnb, hlen] at hN
          simp only [World.size_alloc] at hN hcb
          have HN := Lib.hid hN
          have HB4 := Lib.hid (hB3.trans (hBb.mono hB3.size))
          clear hN hb2 hB2 hB3 hBb hYa hYb hlb hmb hla hma hca HP
          unfold PV.val zeroPV
          go_wp2_with (go_at_call 16; (with_reducible refine HN.out.mono ?_); rintro e' wz ⟨rfl, hwz⟩; have hwz := hwz.symm; subst hwz)
          go_ret
          exact ⟨rfl, HB4.out⟩
end Go.Proofs.YtmjooghfghmngaaDoor
