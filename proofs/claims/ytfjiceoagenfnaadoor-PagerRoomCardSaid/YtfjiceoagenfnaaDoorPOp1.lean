/- Layer pager: faults, reads, what is told of pages. -/
import Derived.Test.YtfjiceoagenfnaaDoorPRt2
set_option maxRecDepth 20000
namespace Go.Proofs.YtfjiceoagenfnaaDoor
open Go.RowKit Go.Lib Go.ChangeMaps Go.MapKept

/-- A slice of ints that reads as a list. -/
def IntsAt (W : World) (A : Option Addr) (l : List Int) : Prop := 0 < l.length → ∃ b o, A = some ⟨b, o, none⟩ ∧ ∀ (i : Nat) (h : i < l.length), W.cell? ⟨b, o + i, none⟩ = some (.int .i64 l[i])
theorem IntsAt.on {W W' : World} {A : Option Addr} {l : List Int} (h : IntsAt W A l) (hc : ∀ ad v, A = some ad → ∀ i, W.cell? ⟨ad.block, ad.off + i, none⟩ = some v → W'.cell? ⟨ad.block, ad.off + i, none⟩ = some v) : IntsAt W' A l := fun h0 => by
  obtain ⟨b, o, e, hh⟩ := h h0
  exact ⟨b, o, e, fun i hi => hc _ _ e i (hh i hi)⟩
theorem IntsAt.nil (W : World) : IntsAt W none [] := fun h => absurd h (by simp)
theorem IntsAt.one {W : World} (i : Int) : IntsAt (W.alloc (.cells #[.int .i64 i] 3 (0, 0))) (some ⟨W.heap.size, 0, none⟩) [i] := fun _ => ⟨W.heap.size, 0, rfl, fun j hj => by
  obtain rfl : j = 0 := by simp at hj; omega
  exact blk_cell (heap_alloc_new W _) 0⟩
/-- Why nothing can be done with those pages. -/
def fltE (l : List Int) (n : Nat) : Int := if l.all (fun i => isPgB i n) = true then 0 else 1
theorem fault_none (W : World) (A : Option Addr) (n c : Nat) : Calls Tryd.prog 27 #[.pointer none, .slice A n c] W fun e w' => e = .returned (.int .i64 1) ∧ w' = W := by
  go_enter Tryd.func27, Tryd.ntmps27
  go_wp2_with fail
  go_ret
  exact ⟨rfl, rfl⟩
set_option maxHeartbeats 2000000 in
theorem faultP_any {W : World} {T : Nat → Prop} {st : DS} {ps : PS} {gd g gs : Nat} (h : Bo W T st ps gd g gs) (ho : st.out = false) {A : Option Addr} {c : Nat} {l : List Int} (hl : IntsAt W A l) (hn : l.length ≤ 1000000) :
    Calls Tryd.prog 27 #[.pointer (some ⟨g, 0, none⟩), .slice A l.length c] W fun e w' => e = .returned (.int .i64 (fltE l st.sz)) ∧ w' = W := by
  obtain ⟨low, hp⟩ := h.pg
  have d0 := hp.d0
  have d6 := hp.d6
  have hd := Down_any h.dk
  rw [ho] at hd
  have HDN := Lib.hid hd
  have HP := Lib.hid hp
  have HI := Lib.hid hl
  have HN := Lib.hid hn
  clear h ho hd hp hl hn
  go_enter Tryd.func27, Tryd.ntmps27
  go_wp2_with (go_at_call 45; refine HDN.out.mono ?_; rintro e' wz ⟨rfl, hwz⟩; have hwz := hwz.symm; subst hwz)
  go_loopg [31] l.length (fun m i wr => ∃ k : Nat, i = .int .i64 k ∧ k ≤ l.length ∧ m = l.length - k ∧ Hid (wr = W ∧ (l.take k).all (fun i => isPgB i st.sz) = true))
  case atStart => exact ⟨0, rfl, Nat.zero_le _, rfl, Lib.hid ⟨rfl, rfl⟩⟩
  case round =>
    obtain ⟨k, rfl, hk, rfl, HR⟩ := hrel
    obtain ⟨hw, ha⟩ := HR.out
    subst hw
    by_cases hlt : k < l.length
    · have k1 : (k : Int) < (l.length : Int) := by omega
      have k0 : (0 : Int) ≤ (k : Int) := by omega
      obtain ⟨b, o, rfl, hc⟩ := HI.out (by omega)
      have hck := hc k hlt
      have HT := Lib.hid (hasT_any HP.out l[k])
      have HA : Hid (isPgB l[k] st.sz = true → (l.take (k + 1)).all (fun i => isPgB i st.sz) = true) := Lib.hid fun e => by
        rw [List.take_add_one, List.getElem?_eq_getElem hlt, List.all_append, ha]
        simp [e]
      have HF : Hid (isPgB l[k] st.sz = false → fltE l st.sz = 1) := Lib.hid fun e => by
        unfold fltE
        rw [if_neg]
        intro e2
        have := List.all_eq_true.1 e2 _ (List.getElem_mem hlt)
        rw [e] at this; cases this
      have HL := Lib.hid (And.intro hlt hk)
      have w1 : IntKind.i64.wrap ((k : Int) + 1) = ((k + 1 : Nat) : Int) := by have := HN.out; rw [wrap_in (by omega) (by omega)]; omega
      generalize l[k] = x at *
      clear hc ha HR hlt hk
      obtain ⟨bb, hbb⟩ : ∃ b, Hid (isPgB x st.sz = b) := ⟨_, Lib.hid rfl⟩
      rw [hbb.out] at HT HA HF
      cases bb
      · go_wp2_with (go_at_call 46; refine HT.out.mono ?_; rintro e' wz ⟨rfl, hwz⟩; have hwz := hwz.symm; subst hwz)
        go_ret
        exact ⟨by rw [HF.out trivial]; rfl, rfl⟩
      · go_wp2_with (go_at_call 46; refine HT.out.mono ?_; rintro e' wz ⟨rfl, hwz⟩; have hwz := hwz.symm; subst hwz)
        go_roundg (l.length - (k + 1))
        case measure => have := HL.out; omega
        case rel => exact ⟨k + 1, by go_num, by have := HL.out; omega, rfl, Lib.hid ⟨rfl, HA.out trivial⟩⟩
    · have k1 : ¬ (k : Int) < (l.length : Int) := by omega
      have HF : Hid (fltE l st.sz = 0) := Lib.hid (by
        unfold fltE
        rw [if_pos]
        rwa [List.take_of_length_le (by omega)] at ha)
      go_wp2_with fail
      go_ret
      exact ⟨by rw [HF.out]; rfl, rfl⟩
theorem told_other (W : World) (p : Value) (e : Int) (he : e ≠ 15) : Calls Tryd.prog 31 #[p, .int .i64 e] W fun e' w' => e' = .returned (.int .i64 e) ∧ w' = W := by
  have h1 : (e == 15) = false := by rw [beq_eq_false_iff_ne]; exact he
  clear he
  go_enter Tryd.func31, Tryd.ntmps31
  go_wp2_with fail
  go_ret
  exact ⟨rfl, rfl⟩
theorem told_down {W : World} {n : Nat} {ps : PS} {gd g gs low : Nat} (h : PAt W n ps gd g gs low) : Calls Tryd.prog 31 #[.pointer (some ⟨g, 0, none⟩), .int .i64 15] W fun e' w' => e' = .returned (.int .i64 15) ∧ Fr (TB g gs) W w' := by
  have f6 := h.fz 6
  have d6 := h.d6
  clear h
  go_enter Tryd.func31, Tryd.ntmps31
  go_wp2_with fail
  go_ret
  exact ⟨rfl, tb_g⟩
theorem Room_any {W : World} {n : Nat} {ps : PS} {gd g gs low : Nat} (h : PAt W n ps gd g gs low) : Calls Tryd.prog 11 #[.pointer (some ⟨g, 0, none⟩)] W fun e' w' => e' = .returned (.int .i64 (roomOf ps.ts : Nat)) ∧ w' = W := by
  have d2 := h.d2
  clear h
  go_enter Tryd.func11, Tryd.ntmps11
  go_wp2_with fail
  go_ret
  exact ⟨rfl, rfl⟩
theorem Room_nil (W : World) : Calls Tryd.prog 11 #[.pointer none] W fun e' w' => e' = .returned (.int .i64 0) ∧ w' = W := by
  go_enter Tryd.func11, Tryd.ntmps11
  go_wp2_with fail
  go_ret
  exact ⟨rfl, rfl⟩
theorem Root_nil (W : World) : Calls Tryd.prog 20 #[.pointer none] W fun e' w' => e' = .returned (.tuple #[.int .i64 0, .int .i64 0]) ∧ w' = W := by
  go_enter Tryd.func20, Tryd.ntmps20
  go_wp2_with fail
  go_ret2
  exact ⟨rfl, rfl⟩
theorem Root_any {W : World} {n : Nat} {ps : PS} {gd g gs low : Nat} (h : PAt W n ps gd g gs low) : Calls Tryd.prog 20 #[.pointer (some ⟨g, 0, none⟩)] W fun e' w' => e' = .returned (.tuple #[.int .i64 (ps.seq : Nat), .int .i64 (ps.root : Nat)]) ∧ Below W.heap.size W w' := by
  have d4 := h.d4
  have d5 := h.d5
  clear h
  go_enter Tryd.func20, Tryd.ntmps20
  go_wp2_with fail
  go_quiet (fail)
  go_wp2_with fail
  go_ret2
  exact ⟨rfl, below_drewN' (Below.refl _ _) _⟩
/-- What is read: the error, the data. -/
def rdE (s : List UInt8) : Int := if opE s ≠ 0 then opE s else if opK s ≠ 2 then 11 else 0
def rdV (s : List UInt8) : List UInt8 := if rdE s = 0 then opD s else []
theorem rd_seal {d : List UInt8} (h : d.length ≤ 505) : rdE (sealL 2 d) = 0 ∧ rdV (sealL 2 d) = d := by
  obtain ⟨a, b, c⟩ := open_seal (kind := 2) (d := d) (by decide) (by decide) h
  have e : rdE (sealL 2 d) = 0 := by unfold rdE; rw [if_neg (by rw [a]; decide), if_neg (by rw [b]; decide)]
  exact ⟨e, by unfold rdV; rw [if_pos e, c]⟩
theorem fltE_one (i : Int) (n : Nat) : fltE [i] n = if isPgB i n = true then 0 else 1 := by unfold fltE; simp
theorem Read_nil (W : World) (i : Int) : Calls Tryd.prog 17 #[.pointer none, .int .i64 i] W fun e w' => e = .returned (.tuple #[.slice none 0 0, .int .i64 1]) ∧ Below W.heap.size W w' := by
  have HF := Lib.hid (fault_none (W.alloc (Obj.cells #[.int .i64 i] 3 (0, 0))) (some ⟨W.heap.size, 0, none⟩) 1 1)
  have hb : Below W.heap.size W (W.alloc (Obj.cells #[.int .i64 i] 3 (0, 0))) := (Below.refl _ W).alloc (Nat.le_refl _) _
  go_enter Tryd.func17, Tryd.ntmps17
  go_wp2_with (go_at_call 27; refine HF.out.mono ?_; rintro e' wz ⟨rfl, hwz⟩; have hwz := hwz.symm; subst hwz)
  go_ret2
  exact ⟨rfl, hb⟩
set_option maxHeartbeats 4000000 in
theorem ReadP_page {W : World} (hE : Env W) {T : Nat → Prop} {st : DS} {ps : PS} {gd g gs : Nat} (h : Bo W T st ps gd g gs) (ho : st.out = false) (k : Nat) (hi : isPgB k st.sz = true) :
    Calls Tryd.prog 17 #[.pointer (some ⟨g, 0, none⟩), .int .i64 (k : Nat)] W fun e w' => ∃ v, e = .returned (.tuple #[v, .int .i64 (rdE (nowL st.log k))]) ∧ BRow W v (rdV (nowL st.log k)) w' := by
  have hb : Below W.heap.size W (W.alloc (Obj.cells #[.int .i64 (k : Nat)] 3 (0, 0))) := (Below.refl _ W).alloc (Nat.le_refl _) _
  have h1 := h.grow hb
  have HF := Lib.hid (faultP_any h1 ho (l := [(k : Int)]) (c := 1) (IntsAt.one (k : Int)) (by rw [List.length_singleton]; decide))
  rw [fltE_one] at HF
  have hi' := of_decide_eq_true hi
  have HRD := Lib.hid (Read_ok h1.dk ho (i := k) (by omega))
  obtain ⟨low, hp⟩ := h1.pg
  have d0 := hp.d0
  have HE := Lib.hid (hE.on hb)
  have HB := Lib.hid hb
  have HSL := Lib.hid (nowL_512 h.dk.ok k)
  rw [if_pos hi] at HF
  have HRE : Hid (∀ s, rdE s = if opE s ≠ 0 then opE s else if opK s ≠ 2 then 11 else 0) := Lib.hid fun _ => rfl
  have HRV : Hid (∀ s, rdV s = if rdE s = 0 then opD s else []) := Lib.hid fun _ => rfl
  obtain ⟨s, hs⟩ : ∃ s, Hid (nowL st.log k = s) := ⟨_, Lib.hid rfl⟩
  rw [hs.out] at HRD HSL
  clear h h1 hb hE hi hi' hp ho
  rw [hs.out]
  go_enter Tryd.func17, Tryd.ntmps17
  go_upto_region 8 with (first | (go_at_call 27; refine HF.out.mono ?_; rintro e' wz ⟨rfl, hwz⟩; have hwz := hwz.symm; subst hwz) | (go_at_call 38; refine HRD.out.mono ?_; rintro e' w4 ⟨A4, c4, rfl, hv4, hB4, hc4, hk4⟩; have HV4 := Lib.hid hv4.1; have hO := Open_any (HE.out.on hv4.1) (A := A4) (c := c4) (s := s) (by rw [HSL.out]; exact hB4) (by rw [HSL.out]; exact hc4.1) hc4.2; rw [HSL.out] at hO; have HO := Lib.hid hO; clear hv4 hB4 hc4 hk4 hO) | (go_at_call 39; refine HO.out.mono ?_; rintro e' w5 ⟨v5, rfl, hr5⟩; have HR5 := Lib.hid hr5; clear hr5))
  have HBW : Hid (Below W.heap.size W w4) := Lib.hid (HB.out.trans (HV4.out.mono HB.out.size))
  have HRES := Lib.hid (HR5.out.up HBW.out)
  have re := HRE.out s
  have rv := HRV.out s
  obtain ⟨ee, he⟩ : ∃ x, opE s = x := ⟨_, rfl⟩
  obtain ⟨kk, hk⟩ : ∃ x, opK s = x := ⟨_, rfl⟩
  rw [he, hk] at re
  rw [he] 
  rw [hk]
  by_cases e0 : ee = 0
  · subst e0
    rw [if_neg (by decide)] at re
    by_cases k2 : kk = 2
    · subst k2
      rw [if_neg (by decide)] at re
      rw [if_pos re] at rv
      have HRV2 := Lib.hid (And.intro re rv)
      clear re rv
      go_wp2_with fail
      go_ret2
      exact ⟨v5, by rw [HRV2.out.1]; rfl, by rw [HRV2.out.2]; exact HRES.out⟩
    · rw [if_pos k2] at re
      rw [if_neg (by rw [re]; decide)] at rv
      have HRV2 := Lib.hid (And.intro re rv)
      have k2' : ((kk : Int) != 2) = true := by rw [bne_iff_ne]; omega
      clear re rv k2
      go_wp2_with fail
      go_ret2
      exact ⟨.slice none 0 0, by rw [HRV2.out.1]; rfl, by rw [HRV2.out.2]; exact ⟨HRES.out.1, World.ownsRow_nil _ _ _ _⟩⟩
  · rw [if_pos e0] at re
    rw [if_neg (by rw [re]; exact e0)] at rv
    have HRV2 := Lib.hid (And.intro re rv)
    have e0' : (ee != 0) = true := by rw [bne_iff_ne]; exact e0
    clear re rv e0
    go_wp2_with fail
    go_ret2
    exact ⟨.slice none 0 0, by rw [HRV2.out.1]; rfl, by rw [HRV2.out.2]; exact ⟨HRES.out.1, World.ownsRow_nil _ _ _ _⟩⟩
set_option maxHeartbeats 4000000 in
theorem ReadP_bad {W : World} {T : Nat → Prop} {st : DS} {ps : PS} {gd g gs : Nat} (h : Bo W T st ps gd g gs) (ho : st.out = false) (i : Int) (hi : isPgB i st.sz = false) :
    Calls Tryd.prog 17 #[.pointer (some ⟨g, 0, none⟩), .int .i64 i] W fun e w' => e = .returned (.tuple #[.slice none 0 0, .int .i64 1]) ∧ Below W.heap.size W w' := by
  have hb : Below W.heap.size W (W.alloc (Obj.cells #[.int .i64 i] 3 (0, 0))) := (Below.refl _ W).alloc (Nat.le_refl _) _
  have h1 := h.grow hb
  have HF := Lib.hid (faultP_any h1 ho (l := [i]) (c := 1) (IntsAt.one i) (by rw [List.length_singleton]; decide))
  rw [fltE_one, if_neg (by rw [hi]; decide)] at HF
  clear h h1 hi ho
  go_enter Tryd.func17, Tryd.ntmps17
  go_wp2_with (go_at_call 27; refine HF.out.mono ?_; rintro e' wz ⟨rfl, hwz⟩; have hwz := hwz.symm; subst hwz)
  go_ret2
  exact ⟨rfl, hb⟩
end Go.Proofs.YtfjiceoagenfnaaDoor
