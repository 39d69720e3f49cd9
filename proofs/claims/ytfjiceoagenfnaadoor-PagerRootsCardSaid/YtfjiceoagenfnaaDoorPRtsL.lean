/- Law PagerRoots: the walk. -/
import Derived.Test.YtfjiceoagenfnaaDoorPAns
import Derived.Test.YtfjiceoagenfnaaDoorPInv2
set_option maxRecDepth 20000
namespace Go.Proofs.YtfjiceoagenfnaaDoor
open Go.RowKit Go.Lib Go.ChangeMaps Go.MapKept

theorem Saved.new (n : Nat) : Saved n [] ⟨0, 0, []⟩ := ⟨RootIs.new n, fun x hx => (by cases hx), List.nodup_nil⟩
theorem Inv.new0 {n : Nat} (h : 4 ≤ n) (h2 : n ≤ 65536) : Inv (newD n) ⟨List.replicate n 0, 0, 0⟩ ⟨0, 0, []⟩ [] [] := Saved.inv (st := newD n) (s := ⟨0, 0, []⟩) (Saved.new n) rfl rfl ⟨h, h2⟩
/-- What stands behind so many roots. -/
structure RS (W0 W : World) (st : DS) (ps : PS) (now : List Pge) (k gd g gs : Nat) : Prop where
  rn : Rn W0 W st ps gd g gs
  inv : Inv st ps ⟨k, ps.root, now⟩ now []
  left : st.left = 0
  sz : st.sz = 64
  log : st.log.length = 2 * k
  len : now.length = k
  full : st.n = st.log.length
theorem u8_mod (k : Nat) : IntKind.u8.wrap ((k : Nat) : Int) = ((k % 256 : Nat) : Int) := by rw [IntKind.wrap_u8']; omega
set_option maxHeartbeats 8000000 in
theorem roots_walk {W : World} (hE : Env W) (t : Nat) (ht : t < 256) (mask : Nat) (hm : mask < 18446744073709551616) :
    Calls Tryd.prog 5 #[.int .u8 (t : Nat), .int .u64 (mask : Nat)] W fun e w' => e = .returned (.bool true) ∧ Below W.heap.size W w' := by
  have HE := Lib.hid hE
  have HN := Lib.hid (New_good W 64 (by unfold newOk; omega))
  have HM := Lib.hid hm
  have t1 : (t : Int).tmod 40 = ((t % 40 : Nat) : Int) := by rw [Int.tmod_eq_emod_of_nonneg (by omega)]; omega
  obtain ⟨n, hn⟩ : ∃ n, t % 40 = n := ⟨_, rfl⟩
  rw [hn] at t1
  have w1 : IntKind.u8.wrap ((n : Nat) : Int) = ((n : Nat) : Int) := by rw [IntKind.wrap_u8']; omega
  have w2 : IntKind.i64.wrap ((n : Nat) : Int) = ((n : Nat) : Int) := wrap_in (by omega) (by omega)
  have HNN := Lib.hid (show n < 40 by omega)
  clear hE hm hn
  go_enter Tryd.func5, Tryd.ntmps5
  go_upto_region 7 with (first | (go_at_call 7; refine HN.out.mono ?_; rintro e' w1 ⟨gd, T, rfl, hb, hT, hd⟩; have HO := Lib.hid (Open_new HE.out hb hT hd (by decide)); clear hb hT hd) | (go_at_call 8; refine HO.out.mono ?_; rintro e' w2 ⟨g, gs, rfl, hr⟩; have HR := Lib.hid hr; have HAN := Lib.hid (answersP_any (hr.env HE.out)); clear hr) | (go_at_call 9; refine HAN.out.mono ?_; rintro e' w3 ⟨rfl, hb3⟩; have HR3 := Lib.hid (HR.out.grow hb3); clear hb3))
  have HS0 : Hid (RS W w3 (newD 64) ⟨List.replicate 64 0, 0, 0⟩ [] 0 gd g gs) := Lib.hid ⟨HR3.out, Inv.new0 (by decide) (by decide), rfl, rfl, rfl, rfl, rfl⟩
  go_loopg [9, 10] n (fun m l i wr => ∃ (k : Nat) (st : DS) (ps : PS) (now : List Pge), i = .int .i64 k ∧ l = .int .i64 (ps.root : Nat) ∧ k ≤ n ∧ m = n - k ∧ Hid (RS W wr st ps now k gd g gs))
  case atStart => exact ⟨0, _, _, [], rfl, rfl, Nat.zero_le _, rfl, HS0⟩
  case round =>
    obtain ⟨k, st, ps, now, rfl, rfl, hk, rfl, HP⟩ := hrel
    by_cases hlt : k < n
    · have k1 : (k : Int) < (n : Int) := by omega
      have HL := Lib.hid (And.intro hlt hk)
      have u1 := u8_mod k
      have w3' : IntKind.u8.wrap ((k : Nat) : Int) = ((k : Nat) : Int) := by rw [IntKind.wrap_u8']; have := HNN.out; omega
      have w4 : IntKind.i64.wrap ((k : Int) + 1) = ((k + 1 : Nat) : Int) := by have := HNN.out; rw [wrap_in (by omega) (by omega)]; omega
      clear u1 hlt hk
      have hb5 := Below.alloc (Below.refl wr.heap.size wr) (Nat.le_refl _) (Obj.cells #[.int .u8 (k : Nat)] 5 (0, 0))
      have hp := HP.out
      have hroom := hp.inv.room_all (fun x hx => by cases hx)
      rw [hp.len, hp.sz] at hroom
      have hkb : ((UInt8.ofNat k).toNat : Nat) = k := by rw [UInt8.toNat_ofNat', Nat.mod_eq_of_lt (by have := HNN.out; have := HL.out; omega)]
      have hby := bytes_one wr (UInt8.ofNat k)
      rw [hkb] at hby
      have hnw := Rn.new HE.out (hp.rn.grow hb5) hp.inv.out hp.left (by rw [hp.log]; have := HNN.out; have := HL.out; omega) (free_some hp.inv.len (by simp only [List.length_nil] at hroom; have := HNN.out; have := HL.out; omega)) (A := some ⟨wr.heap.size, 0, none⟩) (c := 1) (d := [UInt8.ofNat k]) hby (fun e => by cases e) (by rw [List.length_singleton]; decide)
      have HNW := Lib.hid hnw
      clear hb5 hp hroom hkb hby hnw
      go_wp2_with (first | (go_at_call 10; refine HNW.out.mono ?_; rintro e' w5 ⟨f, hf2, hf64, hff, rfl, hr5⟩; have hi5 := HP.out.inv.new (d := [UInt8.ofNat k]) hf2 hf64 hff (by rw [List.length_singleton]; decide) (st' := { st with log := st.log ++ [(f, sealL 2 [UInt8.ofNat k])] }) rfl rfl rfl HP.out.inv.out; have hts : (ps.ts.set f 2).getD f 0 = 2 := get_set (by rw [HP.out.inv.len]; exact hf64) 2; have hmb : mayB (ps.ts.set f 2) (f : Int) ({ st with log := st.log ++ [(f, sealL 2 [UInt8.ofNat k])] } : DS).sz = true := (by unfold mayB; rw [isPgB_t hf2 hf64, Int.toNat_natCast, hts]; rfl); have HFL := Lib.hid (Rn.flip HE.out hr5 hi5.out HP.out.left (by have := hi5.sz.1; omega) (by show (st.log ++ [_]).length ≤ 90000; rw [List.length_append, HP.out.log, List.length_singleton]; have := HNN.out; have := HL.out; omega) f (by have := hi5.sz.2; have : f < st.sz := hf64; have h7 : st.sz ≤ 65536 := HP.out.inv.sz.2; omega) (.inr hmb) (by show ps.seq < _; rw [HP.out.inv.seq]; show k < _; have := HNN.out; have := HL.out; omega)); have HI5 := Lib.hid hi5; have HF := Lib.hid (And.intro hf2 hf64); clear hf2 hf64 hff hr5 hi5 hts hmb) | (go_at_call 15; refine HFL.out.mono ?_; rintro e' w6 ⟨rfl, hr6⟩; have HR6 := Lib.hid hr6; clear hr6))
      go_roundg (n - (k + 1))
      case measure => have := HL.out; omega
      case rel =>
        have hsq : ps.seq = k := HP.out.inv.seq
        refine ⟨k + 1, { st with log := (st.log ++ [(f, sealL 2 [UInt8.ofNat k])]) ++ [((k + 1) % 2, rootS (k + 1, f))], n := (st.log ++ [(f, sealL 2 [UInt8.ofNat k])]).length + 1 }, ⟨flipL (ps.ts.set f 2), k + 1, f⟩, now ++ [(f, [UInt8.ofNat k])], by go_num, rfl, by have := HL.out; omega, rfl, Lib.hid ?_⟩
        have hr6 := HR6.out
        (try dsimp only at hr6)
        rw [hsq] at hr6
        refine ⟨hr6, ?_, HP.out.left, HP.out.sz, ?_, ?_, ?_⟩
        · exact HI5.out.flip (r := f) (.inr (mem_ats (x := (f, [UInt8.ofNat k])) (List.mem_append_right _ (List.mem_singleton.2 rfl)))) (by show k < _; have := HNN.out; have := HL.out; omega) rfl (by show (st.log ++ [_]).length + 1 = ((st.log ++ [_]) ++ [_]).length; simp only [List.length_append, List.length_singleton]) rfl HP.out.inv.out
        · show ((st.log ++ [_]) ++ [_]).length = 2 * (k + 1)
          rw [List.length_append, List.length_append, HP.out.log]; simp only [List.length_singleton]; omega
        · rw [List.length_append, HP.out.len]; rfl
        · show (st.log ++ [_]).length + 1 = ((st.log ++ [_]) ++ [_]).length
          simp only [List.length_append, List.length_singleton]
    · have k1 : ¬ (k : Int) < (n : Int) := by omega
      obtain rfl : k = n := by omega
      have hp := HP.out
      obtain ⟨T1, hT1, hB1⟩ := hp.rn.bo
      obtain ⟨lw, hpa⟩ := hB1.pg
      have hro := Root_any hpa
      have hsq : ps.seq = k := hp.inv.seq
      rw [hsq] at hro
      have HRO := Lib.hid hro
      obtain ⟨rt, hrt⟩ : ∃ r, ps.root = r := ⟨_, rfl⟩
      have hrl : rt ≤ 65536 := by rw [← hrt]; exact hpa.root
      have hlast : lastF st.sz st.log = (k, rt) := by
        have := hp.inv.savedL.1.last
        rw [← hrt]; exact this
      have hcr : lastF (crashS st mask).sz (crashS st mask).log = (k, rt) := by
        have := (hp.inv.crash mask).1.last
        rw [← hrt]; exact this
      have HLL := Lib.hid (And.intro hlast (And.intro hcr hrl))
      rw [hrt] at HRO ⊢
      have HB := Lib.hid hp.rn.1
      have HDK := Lib.hid (And.intro hT1 hB1.dk)
      have HOUT := Lib.hid (And.intro hp.inv.out (And.intro hp.sz (show st.log.length ≤ 100000 by rw [hp.log]; have := HNN.out; omega)))
      clear hp hT1 hB1 hpa hro hsq hlast hcr hrl hrt HP
      go_upto_region 16 with (first | (go_at_call 20; refine HRO.out.mono ?_; rintro e' w5 ⟨rfl, hb5⟩; have hb05 := HB.out.trans (hb5.mono HB.out.size); have hd5 := HDK.out.2.grow hb5 (fun _ e => e) (HDK.out.2.ter.on hb5.size); have HO2 := Lib.hid (OpenP_any (HE.out.on hb05) hd5 HOUT.out.1 (by rw [HOUT.out.2.1]; decide) HLL.out.1 (by have := HNN.out; omega) HLL.out.2.2); have HB5 := Lib.hid (And.intro hb05 hd5); clear hb5 hb05 hd5))
      go_upto_region 20 with (first | (go_at_call 8; refine HO2.out.mono ?_; rintro e' w6 ⟨g2, gs2, rfl, hb6, hg6, hgs6, hB6⟩; have HB6 := Lib.hid (HB5.out.1.trans (hb6.mono HB5.out.1.size)); obtain ⟨lw6, hp6⟩ := hB6.pg; have HRO2 := Lib.hid (Root_any hp6); have HD6 := Lib.hid hB6.dk; clear hb6 hg6 hgs6 hB6 hp6) | (go_at_call 20; refine HRO2.out.mono ?_; rintro e' w7 ⟨rfl, hb7⟩; have hb07 := HB6.out.trans (hb7.mono HB6.out.size); have hd7 := HD6.out.grow hb7 (fun _ e => e) (HD6.out.ter.on hb7.size); have HB7 := Lib.hid hb07; have HCR := Lib.hid (Crash_any hd7 HOUT.out.2.2 mask HM.out); clear hb7 hb07 hd7))
      go_wp2_with (first | (go_at_call 22; refine HCR.out.mono ?_; rintro e' w8 ⟨rfl, hf8, T8, he8, hd8⟩; have hb8 : Below W.heap.size W w8 := hf8.below HB7.out HB7.out.size (fun j e => HDK.out.1 j e.1); have HO3 := Lib.hid (OpenP_any (HE.out.on hb8) hd8 rfl (by show 4 ≤ st.sz; rw [HOUT.out.2.1]; decide) HLL.out.2.1 (by have := HNN.out; omega) HLL.out.2.2); have HB8 := Lib.hid hb8; clear hf8 he8 hd8 hb8) | (go_at_call 8; refine HO3.out.mono ?_; rintro e' w9 ⟨g3, gs3, rfl, hb9, hg9, hgs9, hB9⟩; have HB9 := Lib.hid (HB8.out.trans (hb9.mono HB8.out.size)); obtain ⟨lw9, hp9⟩ := hB9.pg; have HRO3 := Lib.hid (Root_any hp9); clear hb9 hg9 hgs9 hB9 hp9) | (go_at_call 20; refine HRO3.out.mono ?_; rintro e' w10 ⟨rfl, hb10⟩; have HB10 := Lib.hid (HB9.out.trans (hb10.mono HB9.out.size)); clear hb10))
      go_ret
      exact ⟨rfl, HB10.out⟩
end Go.Proofs.YtfjiceoagenfnaaDoor
