/- Law PagerRoom: the walk. -/
import Derived.Test.YtfjiceoagenfnaaDoorPLw
set_option maxRecDepth 20000
namespace Go.Proofs.YtfjiceoagenfnaaDoor
open Go.RowKit Go.Lib Go.ChangeMaps Go.MapKept

def atI (now : List Pge) : List Int := now.map fun x => (x.1 : Int)
theorem atI_len (now : List Pge) : (atI now).length = now.length := by simp [atI]
theorem atI_push (now : List Pge) (x : Pge) : atI (now ++ [x]) = atI now ++ [(x.1 : Int)] := by simp [atI]
theorem atI_get {now : List Pge} {i : Nat} (h : i < (atI now).length) : (atI now)[i] = ((now[i]'(by rwa [atI_len] at h)).1 : Int) := by simp [atI]
/-- What the law goes on with: so many pages taken, all told in a row. -/
structure RM (W0 W : World) (n : Nat) (st : DS) (ps : PS) (now : List Pge) (v : Value) (gd g gs : Nat) : Prop where
  lw : ∃ T, Lw W0 W T st ps gd g gs (fun k => v.ownBlock = some k)
  inv : Inv st ps ⟨0, 0, []⟩ now []
  left : st.left = 0
  sz : st.sz = n
  log : st.log.length = now.length
  row : RowK W W0.heap.size 3 encI 1 v (atI now)
theorem RM.room {W0 W : World} {n : Nat} {st : DS} {ps : PS} {now : List Pge} {v : Value} {gd g gs : Nat} (h : RM W0 W n st ps now v gd g gs) : roomOf ps.ts + now.length = n - 2 := by
  have := h.inv.room_all (fun x hx => by cases hx)
  rw [h.sz] at this
  exact this
theorem turnL_rel (ts : List Nat) (now : List Pge) : turnL relC ts (atI now) = relL ts (ats now) := by
  unfold turnL relL atI ats
  rw [List.foldl_map, List.foldl_map]
  rfl
theorem flt_atI {now : List Pge} {n : Nat} (h : ∀ x ∈ now, 2 ≤ x.1 ∧ x.1 < n) : fltE (atI now) n = 0 := by
  unfold fltE
  rw [if_pos]
  refine List.all_eq_true.2 fun i hi => ?_
  obtain ⟨x, hx, rfl⟩ := List.mem_map.1 hi
  exact isPgB_t (h x hx).1 (h x hx).2
theorem flip_room {st : DS} {ps : PS} {s : SS} {part : List Pge} {n : Nat} (h : Inv st ps s [] part) (ho : st.out = false) (hl : st.left = 0) (hz : st.sz = n) (hn : 4 ≤ n ∧ n < 64) (hq : ps.seq < 1000000000) : roomOf (flipL ps.ts) = n - 2 := by
  have hz2 : 2 ≤ st.sz := by omega
  have hsf := setl_free ho hz2 hl (s.seq + 1) 0
  have hq2 : s.seq < 1000000001 := by rw [← h.seq]; omega
  rcases setl_cases ho hz2 (s.seq + 1) 0 with ⟨-, h1, h2, h3⟩ | ⟨e, -⟩ | ⟨e, -⟩
  · have hi := h.flip (r := 0) (.inl rfl) hq2 h2 h3 (setlS_sz _ _ _) h1
    have := hi.room_all (fun x hx => by cases hx)
    rw [setlS_sz, hz] at this
    simpa using this
  · rw [hsf.1] at e; cases e
  · rw [hsf.1] at e; cases e
set_option maxHeartbeats 8000000 in
theorem room_walk {W : World} (hE : Env W) (t : Nat) (ht : t < 256) (fl : Bool) :
    Calls Tryd.prog 4 #[.int .u8 (t : Nat), .bool fl] W fun e w' => e = .returned (.bool true) ∧ Below W.heap.size W w' := by
  have HE := Lib.hid hE
  have t1 : (t : Int).tmod 60 = ((t % 60 : Nat) : Int) := by rw [Int.tmod_eq_emod_of_nonneg (by omega)]; omega
  obtain ⟨m, hm⟩ : ∃ n, t % 60 = n := ⟨_, rfl⟩
  rw [hm] at t1
  obtain ⟨n, hn⟩ : ∃ n, Hid (m + 4 = n) := ⟨_, Lib.hid rfl⟩
  have w1 : IntKind.u8.wrap ((m : Nat) : Int) = ((m : Nat) : Int) := by rw [IntKind.wrap_u8']; omega
  have w2 : IntKind.i64.wrap ((m : Nat) : Int) = ((m : Nat) : Int) := wrap_in (by omega) (by omega)
  have w3 : IntKind.i64.wrap ((m : Int) + 4) = (n : Int) := by rw [wrap_in (by omega) (by omega)]; have := hn.out; omega
  have w5 : IntKind.i64.wrap ((n : Int) - 2) = ((n - 2 : Nat) : Int) := by have := hn.out; rw [wrap_in (by omega) (by omega)]; omega
  obtain ⟨n2, hn2⟩ : ∃ k, Hid (n - 2 = k) := ⟨_, Lib.hid rfl⟩
  rw [hn2.out] at w5
  have HNN := Lib.hid (show 4 ≤ n ∧ n < 64 by have := hn.out; omega)
  have HN := Lib.hid (New_good W n (by have := HNN.out; unfold newOk; omega))
  clear hE hm
  go_enter Tryd.func4, Tryd.ntmps4
  go_upto_region 7 with (first | (go_at_call 7; refine HN.out.mono ?_; rintro e' w1 ⟨gd, T, rfl, hb, hT, hd⟩; have HO := Lib.hid (Open_new HE.out hb hT hd HNN.out.1); clear hb hT hd) | (go_at_call 8; refine HO.out.mono ?_; rintro e' w2 ⟨g, gs, rfl, hr⟩; have HR := Lib.hid hr; have HAN := Lib.hid (answersP_any (hr.env HE.out)); clear hr) | (go_at_call 9; refine HAN.out.mono ?_; rintro e' w3 ⟨rfl, hb3⟩; have hr3 := HR.out.grow hb3; have HR3 := Lib.hid hr3; obtain ⟨lw3, hp3⟩ := hr3.pat; have hrm := Room_any hp3; rw [roomOf_new, hn2.out] at hrm; have HRM := Lib.hid hrm; clear hb3 hr3 hp3 hrm) | (go_at_call 11; refine HRM.out.mono ?_; rintro e' wz ⟨rfl, hwz⟩; have hwz := hwz.symm; subst hwz))
  have HS0 : Hid (RM W w3 n (newD n) ⟨List.replicate n 0, 0, 0⟩ [] (.slice none 0 0) gd g gs) := by
    obtain ⟨T, hl⟩ := Lw.of HR3.out
    exact Lib.hid ⟨⟨T, { hl with ap := fun k hk => (by cases hk) }⟩, Inv.start HNN.out.1 (by have := HNN.out; omega), rfl, rfl, rfl, RowK.nil _ _⟩
  go_loopg [10] (n - 2) (fun q vv wr => ∃ (st : DS) (ps : PS) (now : List Pge), q = n - 2 - now.length ∧ now.length ≤ n - 2 ∧ Hid (RM W wr n st ps now vv gd g gs))
  case atStart => exact ⟨_, _, [], rfl, Nat.zero_le _, HS0⟩
  case round =>
    obtain ⟨st, ps, now, rfl, hk, HP⟩ := hrel
    have hp := HP.out
    obtain ⟨A, c, rfl, -⟩ := hp.row.shape
    rw [atI_len] at HP hp ⊢
    have hrm := hp.room
    obtain ⟨T0, hlw⟩ := hp.lw
    obtain ⟨lw0, hpa⟩ := hlw.bo.pg
    have hrc := Room_any hpa
    obtain ⟨rm, hrmv⟩ : ∃ r, roomOf ps.ts = r := ⟨_, rfl⟩
    rw [hrmv] at hrc hrm
    have HRC := Lib.hid hrc
    have HRV := Lib.hid (And.intro hrmv hrm)
    have HLW := Lib.hid hlw
    have hnl : (now.length : Int) < (n : Int) := by have := HNN.out; omega
    have HK := Lib.hid hk
    clear hrc hrmv hpa hlw hk
    by_cases h0 : 0 < rm
    · have h0' : (0 : Int) < (rm : Int) := by omega
      have HR0 := Lib.hid h0
      have u1 : IntKind.u8.wrap ((now.length : Nat) : Int) = ((now.length : Nat) : Int) := by rw [IntKind.wrap_u8']; have := HNN.out; omega
      have hb5 := Below.alloc (Below.refl wr.heap.size wr) (Nat.le_refl _) (Obj.cells #[.int .u8 (now.length : Nat)] 5 (0, 0))
      have hkb : ((UInt8.ofNat now.length).toNat : Nat) = now.length := by rw [UInt8.toNat_ofNat', Nat.mod_eq_of_lt (by have := HNN.out; omega)]
      have hby := bytes_one wr (UInt8.ofNat now.length)
      rw [hkb] at hby
      have hl5 := HLW.out.grow hb5
      have hnw := New_ok (hl5.env HE.out) hl5.bo hp.inv.out (A := some ⟨wr.heap.size, 0, none⟩) (c := 1) (d := [UInt8.ofNat now.length]) hby (fun e => by cases e) (by rw [List.length_singleton]; decide) (free_some hp.inv.len (by rw [HRV.out.1]; exact h0)) (by rw [hp.log]; have := HNN.out; omega) (by rw [burn_free hp.left]; exact hp.inv.out)
      have HNW := Lib.hid hnw
      have HL5 := Lib.hid (And.intro hl5 hb5)
      clear hnw hl5 hb5 hkb hby hp hrm h0
      obtain ⟨len, hlen⟩ : ∃ k, Hid (now.length = k) := ⟨_, Lib.hid rfl⟩
      go_upto_region 11 with (first | (go_at_call 11; refine HRC.out.mono ?_; rintro e' wz ⟨rfl, hwz⟩; have hwz := hwz.symm; subst hwz) | (go_at_call 10; refine HNW.out.mono ?_; rintro e' w6 ⟨f, hf2, hfn, hff, rfl, hb6⟩; have HB6 := Lib.hid hb6; have HF := Lib.hid (And.intro hf2 (And.intro hfn hff)); clear hf2 hfn hff hb6))
      obtain ⟨T6, hl6, hs6⟩ := HL5.out.1.step HB6.out
      have hp := HP.out
      have hi6 := hp.inv.new (d := [UInt8.ofNat now.length]) HF.out.1 (by rw [hp.sz]; have := HF.out.2.1; rw [hp.sz] at this; exact this) HF.out.2.2 (by rw [List.length_singleton]; decide) (st' := wrS st f (sealL 2 [UInt8.ofNat now.length])) rfl (by show (burn st).n = st.n; rw [burn_free hp.left]) (by show (burn st).sz = st.sz; rw [burn_free hp.left]) (by show (burn st).out = false; rw [burn_free hp.left]; exact hp.inv.out)
      have hrow : RowK w6 W.heap.size 3 encI 1 (.slice A now.length c) (atI now) := hp.row.on (fun k hk => by
        have hk5 : k < wr.heap.size := (HLW.out.ap k hk).2.1
        exact (hs6 k hk).trans (HL5.out.2.block k hk5))
      have hnf : ∀ j (h : j < now.length), now[j].1 ≠ f := fun j h e => (hp.inv.fresh HF.out.1 (by have := HF.out.2.1; exact this) HF.out.2.2).1 (e ▸ mem_ats (List.getElem_mem h))
      have HI6 := Lib.hid hi6
      have HL6 := Lib.hid hl6
      have HROW := Lib.hid hrow
      have HNF := Lib.hid hnf
      clear hp hi6 hl6 hs6 hrow hnf
      go_wp2_with fail
      go_loopg [13] now.length (fun q i wq => ∃ j : Nat, i = .int .i64 j ∧ j ≤ now.length ∧ q = now.length - j ∧ Hid (wq = w6))
      case atStart => exact ⟨0, rfl, Nat.zero_le _, rfl, Lib.hid rfl⟩
      case round =>
        obtain ⟨j, rfl, hj, rfl, HW⟩ := hrel
        have hwq := HW.out
        subst hwq
        by_cases hjl : j < now.length
        · have j1 : (j : Int) < (now.length : Int) := by omega
          have j0 : (0 : Int) ≤ (j : Int) := by omega
          have hr2 := HROW.out
          rw [← atI_len now] at hr2
          obtain ⟨b, rfl, -, -, hc⟩ := hr2.get kindI (by rw [atI_len]; omega)
          have hcell := hc j (by rw [atI_len]; exact hjl) 0 _ rfl (by decide)
          rw [atI_get, Nat.mul_one, Nat.add_zero] at hcell
          have hne : (((now[j].1 : Nat) : Int) == (f : Int)) = false := by rw [beq_eq_false_iff_ne]; have := HNF.out j hjl; omega
          have w7 : IntKind.i64.wrap ((j : Int) + 1) = ((j + 1 : Nat) : Int) := by have := HNN.out; have := HK.out; rw [wrap_in (by omega) (by omega)]; omega
          have HJ := Lib.hid hjl
          generalize now[j].1 = x at *
          clear hr2 hc hjl hj
          go_wp2_with fail
          go_roundg (now.length - (j + 1))
          case measure => have := HJ.out; omega
          case rel => exact ⟨j + 1, by go_num, by have := HJ.out; omega, rfl, Lib.hid rfl⟩
        · have j1 : ¬ (j : Int) < (now.length : Int) := by omega
          clear hj hjl
          have hal := Below.alloc (Below.refl wr.heap.size wr) (Nat.le_refl _) (Obj.cells #[.int .i64 (f : Nat)] 3 (0, 0))
          have hag := heap_alloc_new wr (Obj.cells #[.int .i64 (f : Nat)] 3 (0, 0))
          have hla := HL6.out.grow hal
          have hra : RowK (wr.alloc (Obj.cells #[.int .i64 (f : Nat)] 3 (0, 0))) W.heap.size 3 encI 1 (.slice A now.length c) (atI now) := HROW.out.on (fun k hk => hal.block k (HL6.out.ap k hk).2.1)
          have HAG := Lib.hid hag
          have HLA := Lib.hid hla
          have HRA := Lib.hid hra
          clear hal hag hla hra
          go_wp2_with (at_builtin; go_must (refine append_rowK kindI Tryd.underlying55 HRA.out HLA.out.below.size (f : Int) HAG.out rfl (by rw [atI_len]; have := HNN.out; have := HK.out; omega) (by decide) rfl _ _ rfl rfl _ rfl ?_; rintro v8 w8 hr8 hg8 hl8; have HR8 := Lib.hid (And.intro hr8 (And.intro hg8 hl8)); clear hr8 hg8 hl8))
          have hp := HP.out
          go_roundg (n - 2 - (now.length + 1))
          case measure => have := HRV.out.2; have := HR0.out; omega
          case rel =>
            refine ⟨wrS st f (sealL 2 [UInt8.ofNat now.length]), { ps with ts := ps.ts.set f 2 }, now ++ [(f, [UInt8.ofNat now.length])], by rw [List.length_append]; rfl, by rw [List.length_append]; have := HRV.out.2; have := HR0.out; simp only [List.length_singleton]; omega, Lib.hid ?_⟩
            refine ⟨⟨T6, HLA.out.rows (Fr.grew HR8.out.2.1 (fun k e => e)) (fun k hk => HR8.out.2.2 k hk)⟩, HI6.out, ?_, ?_, ?_, ?_⟩
            · show (burn st).left = 0; rw [burn_free hp.left]; exact hp.left
            · show (burn st).sz = n; rw [burn_free hp.left]; exact hp.sz
            · show (st.log ++ [_]).length = _; rw [List.length_append, List.length_append, hp.log]; rfl
            · rw [atI_push]; exact HR8.out.1
    · have hz : rm = 0 := by omega
      subst hz
      have hnl2 : now.length = n - 2 := by have := HRV.out.2; omega
      have HNL := Lib.hid hnl2
      have hfull := New_full (HLW.out.env HE.out) HLW.out.bo hp.inv.out (A := none) (c := 0) (d := []) (fun h => absurd h (by simp)) (fun _ => rfl) (by decide) (free_none hp.inv.len HRV.out.1)
      have HFU := Lib.hid hfull
      have hn20 : ((n2 : Int) != 0) = true := by rw [bne_iff_ne]; have := hn2.out; have := HNN.out; omega
      have hn21 : ((0 : Int) != (n2 : Int)) = true := by rw [bne_iff_ne]; have := hn2.out; have := HNN.out; omega
      have hn2' : ((now.length : Int) != (n2 : Int)) = false := by rw [bne_eq_false_iff_eq, hnl2, hn2.out]
      clear hnl2 hfull hp hrm h0
      go_upto_region 20 with (first | (go_at_call 11; refine HRC.out.mono ?_; rintro e' wz ⟨rfl, hwz⟩; have hwz := hwz.symm; subst hwz) | (go_at_call 10; refine HFU.out.mono ?_; rintro e' w6 ⟨rfl, hb6⟩; have HB6 := Lib.hid hb6; clear hb6))
      obtain ⟨T6, hl6, hs6⟩ := HLW.out.step HB6.out
      have hp := HP.out
      have hrow : RowK w6 W.heap.size 3 encI 1 (.slice A now.length c) (atI now) := hp.row.on (fun k hk => hs6 k hk)
      have h0n : 0 < now.length := by have := HNN.out; have := HNL.out; omega
      have hr2 := hrow
      rw [← atI_len now] at hr2
      obtain ⟨b, hAb, hbb, hbl, hc⟩ := hr2.get kindI (by rw [atI_len]; exact h0n)
      subst hAb
      have hcell := hc 0 (by rw [atI_len]; exact h0n) 0 _ rfl (by decide)
      rw [atI_get, Nat.mul_one, Nat.add_zero] at hcell
      have HL6 := Lib.hid hl6
      have HROW := Lib.hid hrow
      have HNP := Lib.hid h0n
      have HBB := Lib.hid (hl6.ap b rfl)
      have ln0 : (0 : Int) < (now.length : Int) := by omega
      have hcell0 : w6.cell? ⟨b, 0, none⟩ = some (.int .i64 ((now[0]'h0n).1 : Nat)) := hcell
      clear hcell
      obtain ⟨x0, hx0⟩ : ∃ x, now[0]'h0n = x := ⟨_, rfl⟩
      rw [hx0] at hcell0
      have hx0m : x0 ∈ now := hx0 ▸ List.getElem_mem h0n
      have hmay := hp.inv.may h0n
      rw [hx0] at hmay
      have hx0b := hp.inv.hnow x0 hx0m
      have HX0 := Lib.hid (And.intro hx0m (And.intro hmay hx0b))
      have hin : IntsAt w6 (some ⟨b, 0, none⟩) (atI now) := fun h => ⟨b, 0, rfl, fun i hi => by
        have := hc i hi 0 _ rfl (by decide)
        rw [Nat.mul_one, Nat.add_zero] at this
        rw [Nat.zero_add]
        exact this⟩
      have HIN6 := Lib.hid hin
      clear hl6 hs6 hrow hr2 hc hbb hbl hx0 hx0m hmay hx0b hin hnl
      cases fl
      · obtain ⟨st7, hst7⟩ : ∃ x, x = st := ⟨_, rfl⟩
        obtain ⟨ps7, hps7⟩ : ∃ x, x = ps := ⟨_, rfl⟩
        rw [← hst7, ← hps7] at HL6 hp
        have HI7 := Lib.hid hp.inv
        have HL7 := HL6
        have HBB7 := HBB
        have HIN := HIN6
        have HO7 := Lib.hid (And.intro hp.inv.out (And.intro hp.left (And.intro hp.sz (show st7.log.length ≤ 80000 by rw [hp.log]; have := HNL.out; have := HNN.out; omega))))
        clear hp hcell0 hst7 hps7 h0n
        have hfree := Free_any HL7.out.bo HO7.out.1 (A := some ⟨b, 0, none⟩) (c := c) (l := atI now) HIN.out (by rw [atI_len]; have := HNL.out; have := HNN.out; omega) (fun ad e => by cases e; exact ⟨HBB7.out.2.1, HBB7.out.2.2.2⟩)
        have hf0 : fltE (atI now) st7.sz = 0 := flt_atI (fun x hx => ⟨(HI7.out.hnow x hx).1, (HI7.out.hnow x hx).2.1⟩)
        have hts : turnT relC ps7.ts (atI now) st7.sz = relL ps7.ts (ats now) := (if_pos hf0).trans (turnL_rel _ _)
        rw [hf0, hts, atI_len] at hfree
        have HFR := Lib.hid hfree
        obtain ⟨part', hi8, hpa, hpb⟩ := Inv.freeAll now [] ps7 HI7.out
        have hpart : part'.length = 0 := by rw [hpb (fun i _ e => by cases e)]; rfl
        have hroom8 : roomOf (relL ps7.ts (ats now)) = n - 2 := by
          have h1 : roomOf (relL ps7.ts (ats now)) + ([] : List Pge).length + part'.length = st7.sz - 2 := hi8.room_all hi8.part_lt
          rw [hpart, HO7.out.2.2.1] at h1
          simp only [List.length_nil] at h1
          have := HNL.out
          omega
        have HI8 := Lib.hid hi8
        have HR8 := Lib.hid hroom8
        have hi9q : ps7.seq ≤ 1 := by rw [HI7.out.seq]; exact Nat.zero_le _
        have HQ := Lib.hid (show ps7.seq < 1000000000 by omega)
        clear hfree hf0 hts hi8 hpa hpb hpart hroom8 hi9q
        go_wp2_with (first | (go_at_call 13; (with_reducible refine HFR.out.mono ?_); rintro e' w8 ⟨rfl, hb8⟩; obtain ⟨T8, hl8, -⟩ := HL7.out.step hb8; obtain ⟨lw8, hp8⟩ := hl8.bo.pg; have hrm8 := Room_any hp8; (try dsimp only at hrm8); rw [HR8.out, hn2.out] at hrm8; have HRM8 := Lib.hid hrm8; have hfl8 := Flip_ok (hl8.env HE.out) hl8.bo HO7.out.1 0 (by decide) (.inl rfl) (by have := HO7.out.2.2.2; omega) (hl8.four HE.out) HQ.out (setl_free HO7.out.1 (by rw [HO7.out.2.2.1]; have := HNN.out; omega) HO7.out.2.1 _ 0).1; rw [show (((0 : Nat) : Int)) = 0 from rfl] at hfl8; have HFL8 := Lib.hid hfl8; have HL8 := Lib.hid hl8; clear hb8 hl8 hp8 hrm8 hfl8) | (go_at_call 11; (with_reducible refine HRM8.out.mono ?_); rintro e' wz ⟨rfl, hwz⟩; have hwz := hwz.symm; subst hwz) | (go_at_call 15; (with_reducible refine HFL8.out.mono ?_); rintro e' w9 ⟨rfl, hb9⟩; obtain ⟨T9, hl9, -⟩ := HL8.out.step hb9; obtain ⟨lw9, hp9⟩ := hl9.bo.pg; have hrm9 := Room_any hp9; (try dsimp only at hrm9); rw [flip_room HI8.out HO7.out.1 HO7.out.2.1 HO7.out.2.2.1 HNN.out HQ.out, hn2.out] at hrm9; have HRM9 := Lib.hid hrm9; have HB9 := Lib.hid hl9.below; clear hb9 hl9 hp9 hrm9) | (go_at_call 11; (with_reducible refine HRM9.out.mono ?_); rintro e' wz ⟨rfl, hwz⟩; have hwz := hwz.symm; subst hwz))
        go_ret
        exact ⟨rfl, HB9.out⟩
      · have hz6 : 2 ≤ st.sz := by rw [hp.sz]; have := HNN.out; omega
        have hsf := setl_free hp.inv.out hz6 hp.left 1 x0.1
        have hs0 : ps.seq = 0 := hp.inv.seq
        have hfl := Flip_ok (HL6.out.env HE.out) HL6.out.bo hp.inv.out x0.1 (by have := HX0.out.2.2.2.1; rw [hp.sz] at this; have := HNN.out; omega) (.inr (by
          unfold mayB
          rw [isPgB_t HX0.out.2.2.1 HX0.out.2.2.2.1, Int.toNat_natCast]
          rcases HX0.out.2.1 with e | e <;> rw [e] <;> rfl)) (by rw [hp.log]; have := HNL.out; have := HNN.out; omega) (HL6.out.four HE.out) (by rw [hs0]; decide) (by rw [hs0]; exact hsf.1)
        rw [hs0] at hfl
        have HFL := Lib.hid hfl
        have hcs := setl_cases hp.inv.out hz6 1 x0.1
        have hcs1 : (setlS st 1 x0.1).out = false ∧ (setlS st 1 x0.1).log = st.log ++ [(1 % 2, rootS (1, x0.1))] ∧ (setlS st 1 x0.1).n = (setlS st 1 x0.1).log.length := by
          rcases hcs with ⟨-, h⟩ | ⟨h, -⟩ | ⟨h, -⟩
          · exact h
          · rw [hsf.1] at h; cases h
          · rw [hsf.1] at h; cases h
        have hi7 := hp.inv.flip (r := x0.1) (.inr (mem_ats HX0.out.1)) (by decide) hcs1.2.1 hcs1.2.2 (setlS_sz _ _ _) hcs1.1
        obtain ⟨st7, hst7⟩ : ∃ x, setlS st 1 x0.1 = x := ⟨_, rfl⟩
        rw [hst7] at hi7 HFL
        have HI7' := Lib.hid hi7
        have HO7 := Lib.hid (show st7.out = false ∧ st7.left = 0 ∧ st7.sz = n ∧ st7.log.length ≤ 80000 from by
          rw [← hst7]
          exact ⟨hcs1.1, hsf.2, (setlS_sz _ _ _).trans hp.sz, by rw [hcs1.2.1, List.length_append, hp.log]; simp only [List.length_singleton]; have := HNL.out; have := HNN.out; omega⟩)
        clear hp hz6 hsf hs0 hfl hcs hcs1 hi7 hst7 h0n
        generalize x0.1 = r0 at *
        go_upto_region 22 with (first | (go_at_call 15; (with_reducible refine HFL.out.mono ?_); rintro e' w7 ⟨rfl, hb7⟩; have HB7 := Lib.hid hb7; clear hb7))
        obtain ⟨T7, hl7, hs7⟩ := HL6.out.step HB7.out
        have HL7 := Lib.hid hl7
        have HBB7 := Lib.hid (hl7.ap b rfl)
        have HIN : Hid (IntsAt w7 (some ⟨b, 0, none⟩) (atI now)) := Lib.hid (HIN6.out.on (fun ad v e i h => by
          cases e
          rw [World.cell?_of_block (w := w6) (a := ⟨b, 0 + i, none⟩) (hs7 b rfl)]
          exact h))
        obtain ⟨ps7, hps7⟩ : ∃ x, (⟨flipL ps.ts, 0 + 1, r0⟩ : PS) = x := ⟨_, rfl⟩
        have HI7 : Hid (Inv st7 ps7 ⟨1, r0, now⟩ now []) := Lib.hid (by rw [← hps7]; exact HI7'.out)
        rw [show (⟨flipL ps.ts, 0 + 1, r0⟩ : PS) = ps7 from hps7] at HL7
        clear hl7 hs7 hps7 hcell0
        have hfree := Free_any HL7.out.bo HO7.out.1 (A := some ⟨b, 0, none⟩) (c := c) (l := atI now) HIN.out (by rw [atI_len]; have := HNL.out; have := HNN.out; omega) (fun ad e => by cases e; exact ⟨HBB7.out.2.1, HBB7.out.2.2.2⟩)
        have hf0 : fltE (atI now) st7.sz = 0 := flt_atI (fun x hx => ⟨(HI7.out.hnow x hx).1, (HI7.out.hnow x hx).2.1⟩)
        have hts : turnT relC ps7.ts (atI now) st7.sz = relL ps7.ts (ats now) := (if_pos hf0).trans (turnL_rel _ _)
        rw [hf0, hts, atI_len] at hfree
        have HFR := Lib.hid hfree
        obtain ⟨part', hi8, hpa, hpb⟩ := Inv.freeAll now [] ps7 HI7.out
        have hpart : part'.length = now.length := by rw [hpa (fun i hi => hi)]; simp
        have hroom8 : roomOf (relL ps7.ts (ats now)) = 0 := by
          have h1 : roomOf (relL ps7.ts (ats now)) + ([] : List Pge).length + part'.length = st7.sz - 2 := hi8.room_all hi8.part_lt
          rw [hpart, HO7.out.2.2.1] at h1
          simp only [List.length_nil] at h1
          have := HNL.out
          omega
        have HI8 := Lib.hid hi8
        have HR8 := Lib.hid hroom8
        have hi9q : ps7.seq ≤ 1 := by rw [HI7.out.seq]; exact Nat.le_refl _
        have HQ := Lib.hid (show ps7.seq < 1000000000 by omega)
        clear hfree hf0 hts hi8 hpa hpb hpart hroom8 hi9q
        go_wp2_with (first | (go_at_call 13; (with_reducible refine HFR.out.mono ?_); rintro e' w8 ⟨rfl, hb8⟩; obtain ⟨T8, hl8, -⟩ := HL7.out.step hb8; obtain ⟨lw8, hp8⟩ := hl8.bo.pg; have hrm8 := Room_any hp8; (try dsimp only at hrm8); rw [HR8.out] at hrm8; have HRM8 := Lib.hid hrm8; have hfl8 := Flip_ok (hl8.env HE.out) hl8.bo HO7.out.1 0 (by decide) (.inl rfl) (by have := HO7.out.2.2.2; omega) (hl8.four HE.out) HQ.out (setl_free HO7.out.1 (by rw [HO7.out.2.2.1]; have := HNN.out; omega) HO7.out.2.1 _ 0).1; rw [show (((0 : Nat) : Int)) = 0 from rfl] at hfl8; have HFL8 := Lib.hid hfl8; have HL8 := Lib.hid hl8; clear hb8 hl8 hp8 hrm8 hfl8) | (go_at_call 11; (with_reducible refine HRM8.out.mono ?_); rintro e' wz ⟨rfl, hwz⟩; have hwz := hwz.symm; subst hwz) | (go_at_call 15; (with_reducible refine HFL8.out.mono ?_); rintro e' w9 ⟨rfl, hb9⟩; obtain ⟨T9, hl9, -⟩ := HL8.out.step hb9; obtain ⟨lw9, hp9⟩ := hl9.bo.pg; have hrm9 := Room_any hp9; (try dsimp only at hrm9); rw [flip_room HI8.out HO7.out.1 HO7.out.2.1 HO7.out.2.2.1 HNN.out HQ.out, hn2.out] at hrm9; have HRM9 := Lib.hid hrm9; have HB9 := Lib.hid hl9.below; clear hb9 hl9 hp9 hrm9) | (go_at_call 11; (with_reducible refine HRM9.out.mono ?_); rintro e' wz ⟨rfl, hwz⟩; have hwz := hwz.symm; subst hwz))
        go_ret
        exact ⟨rfl, HB9.out⟩
end Go.Proofs.YtfjiceoagenfnaaDoor
