/- The document's PutNum and Seal; the laws' own and their question. -/
import Derived.Test.YtdnfijhclikkfaaDoorFRef
namespace Go.Proofs.YtdnfijhclikkfaaDoor
open Go.RowKit Go.Lib

/-- The same, with what else stays. -/
theorem append_byG {w0 W : World} {v : Value} {l : List UInt8} (HR : BRow w0 v l W) (qs : List UInt8) (A : Option Addr) (c : Nat) (hq : BytesAt W A qs.length qs) (hnil : A = none → c = 0) (hb : l.length + qs.length ≤ 140737488355328)
    {ops : Array Oper} {rest : List Oper} {o : Oper} {a : Act} {Q : Exit → Act → World → Prop} (hgd : o.guard = none) (s x : Operand)
    (ho : o.op = .call { callee := .builtin .append, args := #[s, x], argTypes := #[22, 22] })
    (hs : a.eval s = v) (hx : a.eval x = .slice A qs.length c)
    (h : ∀ v' w', BRow w0 v' (l ++ qs) w' → W.grownBy w' v.ownBlock → (v'.ownBlock = v.ownBlock ∨ v'.ownBlock = some W.heap.size) → wpList Tryd.prog ops Q rest (a.put o.dst v') w') :
    wpList Tryd.prog ops Q (o :: rest) a W := by
  obtain ⟨i0, z, hi, hz0, hz1, hz2⟩ : ∃ i z, Tryd.prog.info? 5 = some i ∧ i.zero = some z ∧ i.size = 1 ∧ (i.bytes = 1 ∧ z.cells.size = 1) := by
    obtain ⟨i, h1, h2, h3, h4⟩ := info_parts infoB
    exact ⟨i, _, h1, h2, h3, h4, rfl⟩
  cases A with
  | none =>
    obtain rfl : qs = [] := by
      cases qs with
      | nil => rfl
      | cons p q => obtain ⟨_, _, e, _⟩ := hq (by simp); cases e
    obtain rfl := hnil rfl
    refine wpList_append_own_none hgd s x 22 ho w0.heap.size 5 i0 1 Tryd.underlying22 hi v l.length (byV l) hs HR.2 hx ?_
    have := h v W (by rw [List.append_nil]; exact HR) (World.grownBy.refl W _) (.inl rfl)
    exact this
  | some ad =>
    refine wpList_append_own_at _ hgd s x 22 ho w0.heap.size 5 i0 z 1 1 Tryd.underlying22 hi hz0 hz1 hz2.1 hz2.2 (by decide) v l.length (byV l) hs HR.2 ad qs.length c (byV qs) hx (by rw [byV_len, Nat.mul_one]) (fun j u hu => ?_) (fun u hu => ?_) (by unfold maxLen; omega) (by omega) HR.1.size ?_
    · have hj : j < qs.length := by
        have := (List.getElem?_eq_some_iff.1 hu).1
        rwa [byV_len] at this
      obtain ⟨g, o', e, hc⟩ := hq (by omega)
      cases e
      rw [show (⟨g, o', none⟩ : Addr).add j = ⟨g, o' + j, none⟩ by simp [Addr.add], hc j hj, ← hu]
      simp [byV, List.getD_eq_getElem?_getD, List.getElem?_eq_getElem hj]
    · obtain ⟨y, _, rfl⟩ := List.mem_map.1 hu
      rfl
    · intro v' w' hown hgrow _ hat
      have hgb : Below w0.heap.size w0 w' := by
        exact HR.1.grown hgrow HR.1.size (fun k hk => (HR.2.lt k hk).1)
      refine h v' w' ⟨hgb, ?_⟩ hgrow hat
      rw [List.length_append]
      have : byV (l ++ qs) = byV l ++ byV qs := by simp [byV]
      rw [this]
      exact hown
/-- n's lowest k bytes, the lowest first. -/
def lowL (n k : Nat) : List UInt8 := (List.range k).map fun i => UInt8.ofNat (n / 256 ^ i)
theorem lowL_succ (n k : Nat) : lowL n (k + 1) = lowL n k ++ [UInt8.ofNat (n / 256 ^ k)] := by
  unfold lowL; rw [List.range_succ, List.map_append]; rfl
theorem lowL_len (n k : Nat) : (lowL n k).length = k := by simp [lowL]
theorem lowL_at (n k i : Nat) (h : i < k) : (lowL n k).getD i 0 = UInt8.ofNat (n / 256 ^ i) := by
  simp [lowL, List.getD_eq_getElem?_getD, h]
set_option maxHeartbeats 2000000 in
theorem rput_bad {W : World} {A : Option Addr} {c : Nat} {s : List UInt8} (n k : Int) (hB : BytesAt W A s.length s) (hn : A = none → c = 0) (hm : s.length ≤ 140737488351232) (h : n < 0 ∨ k < 1 ∨ 8 < k) :
    Calls Tryd.prog 16 #[.slice A s.length c, .int .i64 n, .int .i64 k] W fun e w' => ∃ v, e = .returned v ∧ BRow W v (putB s n k) w' := by
  rw [putB_bad h]
  have HY := Lib.hid (fun W' hb => hB.on (W' := W') hb)
  have HN := Lib.hid hn
  clear hB hn
  by_cases h1 : n < 0
  · go_enter Tryd.func16, Tryd.ntmps16
    go_wp2_with (at_builtin; go_must (refine append_by (BRow.made W W (Below.refl _ _)) s A c (HY.out _ ((Below.refl _ W).alloc (Nat.le_refl _) _)) HN.out (by simp; omega) rfl _ _ rfl rfl rfl ?_; rintro v8 w8 HR8; rw [List.nil_append] at HR8; have HR := Lib.hid HR8; clear HR8))
    go_ret
    exact ⟨_, rfl, HR.out⟩
  · by_cases h2 : k < 1
    · go_enter Tryd.func16, Tryd.ntmps16
      go_wp2_with (at_builtin; go_must (refine append_by (BRow.made W W (Below.refl _ _)) s A c (HY.out _ ((Below.refl _ W).alloc (Nat.le_refl _) _)) HN.out (by simp; omega) rfl _ _ rfl rfl rfl ?_; rintro v8 w8 HR8; rw [List.nil_append] at HR8; have HR := Lib.hid HR8; clear HR8))
      go_ret
      exact ⟨_, rfl, HR.out⟩
    · have h3 : 8 < k := by omega
      clear h
      go_enter Tryd.func16, Tryd.ntmps16
      go_wp2_with (at_builtin; go_must (refine append_by (BRow.made W W (Below.refl _ _)) s A c (HY.out _ ((Below.refl _ W).alloc (Nat.le_refl _) _)) HN.out (by simp; omega) rfl _ _ rfl rfl rfl ?_; rintro v8 w8 HR8; rw [List.nil_append] at HR8; have HR := Lib.hid HR8; clear HR8))
      go_ret
      exact ⟨_, rfl, HR.out⟩
set_option maxHeartbeats 4000000 in
theorem rput_any {W : World} {A : Option Addr} {c : Nat} {s : List UInt8} (n k : Nat) (hB : BytesAt W A s.length s) (hn : A = none → c = 0) (hm : s.length ≤ 140737488351232) (hk1 : 1 ≤ k) (hk8 : k ≤ 8) (hnn : n < 9223372036854775808) :
    Calls Tryd.prog 16 #[.slice A s.length c, .int .i64 (n : Nat), .int .i64 (k : Nat)] W fun e w' => ∃ v, e = .returned v ∧ BRow W v (putB s n k) w' := by
  have HY := Lib.hid (fun W' hb => hB.on (W' := W') hb)
  have HN := Lib.hid hn
  have g1 : ¬ (n : Int) < 0 := by omega
  have g2 : ¬ (k : Int) < 1 := by omega
  have g3 : ¬ (8 : Int) < (k : Int) := by omega
  clear hB hn
  go_enter Tryd.func16, Tryd.ntmps16
  go_wp2_with (at_builtin; go_must (refine append_by (BRow.made W W (Below.refl _ _)) s A c (HY.out _ ((Below.refl _ W).alloc (Nat.le_refl _) _)) HN.out (by simp; omega) rfl _ _ rfl rfl rfl ?_; rintro v8 w8 HR8; rw [List.nil_append] at HR8; have HR := Lib.hid HR8; clear HR8))
  go_loopw [8, 9, 10] (fun v x i wr => ∃ j X : Nat, i = .int .i64 (j : Nat) ∧ j ≤ k ∧ x = .int .i64 (X : Nat) ∧ Hid (X = n / 256 ^ j) ∧ Hid (BRow w8 v (lowL n j) wr)) (fun _ _ i _ => k - (RowKit.intOf i).toNat)
  case atStart => exact ⟨0, n, rfl, by omega, rfl, by show _ = _; simp, BRow.none w8⟩
  case round =>
    obtain ⟨j, X, rfl, hj, rfl, HX, HL⟩ := hrel
    by_cases hlt : j < k
    · have hl1 : (j : Int) < (k : Int) := by omega
      have hXn : X ≤ n := by rw [HX.out]; exact Nat.div_le_self _ _
      have hr : ((X : Int)).tmod 256 = ((X % 256 : Nat) : Int) := by rw [Int.tmod_eq_emod_of_nonneg (by omega)]; omega
      have hq : ((X : Int)).tdiv 256 = ((X / 256 : Nat) : Int) := by rw [Int.tdiv_eq_ediv_of_nonneg (by omega)]; omega
      have hx : IntKind.u8.wrap ((X % 256 : Nat) : Int) = (((UInt8.ofNat X).toNat : Nat) : Int) := by
        rw [UInt8.toNat_ofNat', IntKind.wrap_u8']; omega
      have HS := Lib.hid (show lowL n (j + 1) = lowL n j ++ [UInt8.ofNat X] by rw [lowL_succ, HX.out])
      have HX2 : Hid (X / 256 = n / 256 ^ (j + 1)) := by
        show _ = _
        rw [HX.out, Nat.div_div_eq_div_mul, Nat.pow_succ]
      have HLN := Lib.hid (lowL_len n j)
      have hQb : X / 256 ≤ 36028797018963968 := by omega
      generalize UInt8.ofNat X = b at *
      generalize X % 256 = R at *
      generalize X / 256 = Q at *
      go_wp2_with (at_builtin; go_must (refine append_by (HL.out.on ((Below.refl _ _).alloc (Nat.le_refl _) _)) [b] _ 1 (bytes_lit (s := [b]) rfl) (fun e => by cases e) (by rw [HLN.out]; simp only [List.length_cons, List.length_nil]; omega) rfl _ _ rfl rfl rfl ?_; rintro v' w' HR'; rw [← HS.out] at HR'; have HR2 := Lib.hid HR'; clear HR'))
      refine ⟨⟨j + 1, Q, by go_num, by omega, rfl, HX2, HR2.out⟩, by simp [RowKit.intOf]; omega⟩
    · have hl1 : ¬ (j : Int) < (k : Int) := by omega
      obtain rfl : j = k := by omega
      by_cases hz : X = 0
      · subst hz
        have HP := Lib.hid (show putB s n j = s ++ putL n j by unfold putB; rw [if_pos ⟨by omega, by omega, by omega, by simpa using HX.out.symm⟩]; simp)
        obtain ⟨A2, c2, rfl, hY2, hb2, hl2, hm2⟩ := HL.out.at
        have HYL := Lib.hid hY2
        have hLN := lowL_len n j
        have HRR := Lib.hid (HR.out.on HL.out.1)
        have HFA : Hid (∀ ad, A2 = some ad → ad.block < wr.heap.size ∧ v8.ownBlock ≠ some ad.block) := fun ad e => ⟨(hb2 ad e).2, fun h => by have := (HR.out.2.lt _ h).2; have := (hb2 ad e).1; omega⟩
        have HUP := Lib.hid HR.out.1
        clear hb2 hl2 hm2 hY2
        rw [hLN]
        go_wp2_with fail
        go_loopw [7, 11] (fun v i wr' => ∃ (q : Nat) (cs : List UInt8), i = .int .i64 ((q : Int) - 1) ∧ q ≤ j ∧ cs.length + q = s.length + j ∧ Hid (cs ++ putL n q = s ++ putL n j) ∧ Hid (BRow W v cs wr') ∧ Hid (BytesAt wr' A2 j (lowL n j)) ∧ Hid (∀ ad, A2 = some ad → ad.block < wr'.heap.size ∧ v.ownBlock ≠ some ad.block)) (fun _ i _ => (RowKit.intOf i + 1).toNat)
        case atStart => exact ⟨j, s, rfl, Nat.le_refl _, rfl, rfl, HRR.out, by have := HYL.out; rwa [hLN] at this, HFA.out⟩
        case round =>
          obtain ⟨q, cs, rfl, hq, hcl, HCS, HR3, HY3, HFB⟩ := hrel
          cases q with
          | zero =>
            have hcs : cs = s ++ putL n j := by have := HCS.out; rwa [show putL n 0 = [] from rfl, List.append_nil] at this
            go_wp2_with fail
            go_ret
            refine ⟨_, rfl, ?_⟩
            rw [HP.out, ← hcs]
            exact HR3.out
          | succ q =>
            have hq1 : (((q + 1 : Nat) : Int) - 1) = (q : Int) := by omega
            rw [hq1]
            have hqj : (q : Int) < (j : Int) := by omega
            obtain ⟨g, o, rfl, hc⟩ := HY3.out (by omega)
            have hcq := hc q (by omega)
            rw [lowL_at n j q (by omega)] at hcq
            have HX3 := Lib.hid (show putL n (q + 1) = UInt8.ofNat (n / 256 ^ q) :: putL n q from rfl)
            generalize UInt8.ofNat (n / 256 ^ q) = x at *
            clear hq1 hc
            go_wp2_with (at_builtin; go_must (refine append_byG (HR3.out.on ((Below.refl _ _).alloc (Nat.le_refl _) _)) [x] _ 1 (bytes_lit (s := [x]) rfl) (fun e => by cases e) (by simp; omega) rfl _ _ rfl rfl rfl ?_; rintro v' w' HR' hgr hat; have HR4 := Lib.hid HR'; have HG4 := Lib.hid hgr; have HT4 := Lib.hid hat; clear HR' hgr hat))
            refine ⟨⟨q, cs ++ [x], rfl, by omega, by rw [List.length_append]; simp only [List.length_cons, List.length_nil]; omega, ?_, HR4.out, ?_, ?_⟩, by simp [RowKit.intOf]⟩
            · show _ = _
              rw [← HCS.out, HX3.out, List.append_assoc]
              rfl
            · refine bytes_on (HY3.out.on ((Below.refl _ _).alloc (Nat.le_refl _) _)) HG4.out fun ad e h => (HFB.out ad e).2 h.symm
            · intro ad e
              have h1 := HFB.out ad e
              have h2 := HG4.out.size
              rw [World.size_alloc] at h2
              refine ⟨by omega, fun h => ?_⟩
              rcases HT4.out with h3 | h3
              · exact h1.2 (h3.symm.trans h)
              · rw [h3, World.size_alloc] at h
                injection h with h
                omega
      · have HP := Lib.hid (show putB s n j = s by unfold putB; rw [if_neg]; rintro ⟨-, -, -, h4⟩; exact hz (by rw [HX.out]; simpa using h4))
        have hz1 : (0 : Int) < (X : Int) := by omega
        have HRR := Lib.hid (HR.out.on HL.out.1)
        go_wp2_with fail
        go_ret
        exact ⟨_, rfl, by rw [HP.out]; exact HRR.out⟩
theorem ref_PutNum {W : World} {A : Option Addr} {c : Nat} {s : List UInt8} (n k : Int) (hB : BytesAt W A s.length s) (hn : A = none → c = 0) (hm : s.length ≤ 140737488351232) (hnn : n ≤ 9223372036854775807) :
    Calls Tryd.prog 16 #[.slice A s.length c, .int .i64 n, .int .i64 k] W fun e w' => ∃ v, e = .returned v ∧ BRow W v (putB s n k) w' := by
  by_cases h : n < 0 ∨ k < 1 ∨ 8 < k
  · exact rput_bad n k hB hn hm h
  · have := rput_any (A := A) (c := c) n.toNat k.toNat hB hn hm (by omega) (by omega) (by omega)
    rwa [show ((n.toNat : Nat) : Int) = n by omega, show ((k.toNat : Nat) : Int) = k by omega] at this
end Go.Proofs.YtdnfijhclikkfaaDoor
